import PyProof.Rows.All
import Wide.All
import OpenK.AllK
import Wide.FinOn
import HandS.ForMost
import HandS.IsInst
import HandS.TupAny
import HandS.TupMul
import HandS.Conv
import PyProof.NeKinds
import PyProof.ReprLen
import KE.KRevSl
import KE.GoesEnum
import HandS.Walk
import HandS.Replace
import PyProof.Rows.RegReprOcc
import PyProof.StrOps2
import KE.BitLaws
import PyProof.ListStr
import HandS.More
import HandS.NoneIn
import HandS.Steps
import HandS.Style
import PyProof.StrLawsRepr
import PySem.Challenge.RW_pairedaway_k17_schemes_with_errors
set_option Elab.async false
set_option maxRecDepth 100000
set_option maxHeartbeats 4000000
/-! Own layer for laws that call repr: promises of defs that run where no repr is under way, data with empty dicts, repr's rule. -/
namespace GL
open PySem PySem.Spec PyProof.Rows L2

/-- a def's promise, claimed only where no guard of repr stands around -/
structure Fg (P : Program) (w : World) (K : PySem.W.Frag) (mg : Str → Option Value) (base : Heap) (CX : CXT) (k : Nat) (f : Addr) (fd : FuncData) (ps : List Str) (sp : Sp) : Prop where
  ln : ∀ vs H Q E, sp vs H Q E → vs.length = ps.length
  go : ∀ (A : Around) (outer : List Env) (s : Shared) (H : Hp) (args : Args) (us : List Value) (vs : List V) (Q : VK) (E : XK), A.guards = some [] → Room k A → Env0 P w K mg base A outer s H →
    BindsTo s fd args (ps.zip us) → Vals vs us → sp vs H Q E → codeAny (model P w) A (.call (.ref f) args) (CR CX outer P w H s Q E) s

theorem Fg.of {P : Program} {w : World} {K : PySem.W.Frag} {mg : Str → Option Value} {base : Heap} {CX : CXT} {k : Nat} {f : Addr} {fd : FuncData} {ps : List Str} {sp : Sp} (F : FnOk P w K mg base CX k f fd ps sp) : Fg P w K mg base CX k f fd ps sp :=
  ⟨F.len, fun A outer s H args us vs Q E _ => F.run A outer s H args us vs Q E⟩

theorem guards_deeper {A : Around} {env : Env} (h : A.guards = some []) : (A.deeper env).guards = some [] := by
  simp [Around.deeper, h]

section
variable {P : Program} {w : World} {K : PySem.W.Frag} {mg : Str → Option Value} {base : Heap}
/-- the rule for such a def: as for any other, with the fact about guards at hand -/
theorem ok_g {x qual : Str} {st : Stmt} {f : Addr} {fd : FuncData} {N ps : List Str} {k : Nat} {sp : Sp} (F : Fun K x qual st f fd) (S : FnScope N ps (defScope st)) (ln : ∀ vs H Q E, sp vs H Q E → vs.length = ps.length)
    (bd : ∀ (cdv : Value) (A : Around) (outer : List Env) (s : Shared) (H : Hp) (vs : List V) (Q : VK) (E : XK), (A.deeper (envOfC qual (defScope st) s.heap.objs.size f cdv)).guards = some [] → Room k (A.deeper (envOfC qual (defScope st) s.heap.objs.size f cdv)) → sp vs H Q E →
      ∃ t, PSs (cxOf CX0 P w K mg base N qual (defScope st) f cdv A outer s H E).nox (defBody st) t ∧ t { nx := fun _ H' => Q .non H', rt := Q } (start N vs) H) : Fg P w K mg base CX0 (k + 1) f fd ps sp := by
  obtain ⟨oc, od, kV, doc, pm, an, cdv, ct, osl, rfl, lk, hcd⟩ := F.ex
  refine ⟨ln, fun A outer s H args us vs Q E hg hr e0 hb r hsp => ?_⟩
  have lv := ln _ _ _ _ hsp
  have KI : K.In s.heap := e0.mod.kin.keeps fun b o q => (e0.bs b o q).1
  have NL : s.heap.NoLimit := e0.mod.nolimit.keeps fun b o q => (e0.bs b o q).1
  have kinds : ∀ y ∈ ps.zip us, (defScope st).names.lookup y.1 = some .local ∨ ((defScope st).names.lookup y.1 = some .cell ∧ ((cellsFrom (s.heap.objs.size + 1) (defScope st).names []).lookup y.1).isSome = true) := by
    rintro ⟨n, v⟩ hy
    cases S.par n (List.of_mem_zip hy).1 with
    | inl q => exact .inl q
    | inr q => exact .inr ⟨q, PySem.W.cellsFrom_some _ _ _ (.inl q)⟩
  refine codeAny_call_function hr.depth (KI _ _ lk) rfl S.co S.gen rfl (PySem.W.codeRec_of KI hcd) (hb _ _ _ _ (wpAny_newFunctionEnv_cells S.kind kinds fun env he s1 x => ?_))
  cases he
  obtain ⟨t, ht, hq⟩ := bd cdv A outer s H vs Q E (guards_deeper hg) (hr.deeper _) hsp
  refine ⟨NL.keeps x.toInCall.keep, codeAny_func (wpAny_mono (ht.nox.run [] s1 (start N vs) H _ (inv_start S hr.hd e0 lv r x) hq) (fun fl s' hs => ?_) fun e s' hs => hs)⟩
  have fin : ∀ {τ : L2.St} {G : Hp} {v : V} {u : Value}, Inv (cxOf CX0 P w K mg base N qual (defScope st) f cdv A outer s H E) [] τ G s' → RelV v u → Q v G → CE outer P w H s Q u s' :=
    fun {τ G v u} J rv q => ⟨v, G, J.os, J.bare, J.base, J.hok, rv, q⟩
  match fl, hs with
  | .ret u, ⟨v, τ, G, J, rv, q⟩ => exact fin J rv q
  | .next, ⟨τ, G, J, q⟩ => exact fin (v := V.non) (u := Value.none) J rfl q
  | .brk, ⟨_, _, _, q⟩ => exact q.elim
  | .cont, ⟨_, _, _, q⟩ => exact q.elim
end

section
variable {X : Cx} {CX : CXT} {k : Nat} {f : Addr} {fd : FuncData} {ps : List Str} {sp : Sp} {E : XK} {x : Str} {p pos : Pos} {e : Expr} {es : List Expr} {t : TA}
/-- f(e, ..) of such a def, without defaults -/
theorem pe_callg (hg : X.A.guards = some []) (F : Fg X.prog X.w X.K X.mg X.base CX k f fd ps sp) (hr : Room k X.A) (gl : Gl X x) (hm : X.mg x = some (.ref f)) (kp : PySem.W.keepIn X.K (.ref f) = true) (hb : Binds X.K fd ps []) (hx : Passes CX X E)
    (ha : PA X (e :: es) t) (hdb : (x == ("__debug__" : Str)) = false := by decide) (se : starEach (e :: es) X.env = (false, eval e X.env) :: starEach es X.env := by rfl) (pl : (backTo pos (starEach es X.env)).any (·.1) = false := by rfl) :
    PE X (.Call (.Name x p) (e :: es) [] pos) (tCall sp [] E t) := by
  refine ⟨fun pins s σ H Q I h => wpAny_Call_Name_kw (ld_glob I gl hm ?_ hdb)⟩
  refine PySem.W.callWith_K (h₀ := X.base) I.ok.mod.kin kp (thn (ha.run pos pins s σ H _ I h) fun us s1 ⟨vs, G, J, r, q⟩ => ⟨J.kIn, ?_⟩) se pl
  replace q : sp vs G Q E := by simpa using q
  have ll : (us ++ ([] : List Value)).length = ps.length := by rw [List.append_nil, ← r.length]; exact F.ln _ _ _ _ q
  have bb := hb s1 us J.kIn ll
  rw [List.append_nil] at bb
  refine wpAny_call (codeAny_mono (F.go X.A X.stack s1 G ⟨us, []⟩ us vs Q E hg hr J.env0 bb r q) fun res s' hq => ?_)
  match res, hq with
  | .error e, hq => exact hx pins σ G s1 e s' J hq
  | .ok (.ret u), hq => exact J.after hq
  | .ok .next, hq => exact hq.elim
  | .ok .brk, hq => exact hq.elim
  | .ok .cont, hq => exact hq.elim
end

/-! ### data, empty dicts among them -/
mutual
inductive Dt (K : PySem.W.Frag) (H : Hp) : V → PyData → Prop
  | non : Dt K H .non .none
  | bl (b : Bool) : Dt K H (.bl b) (.bool b)
  | int (i : Int) : Dt K H (.int i) (.int i)
  | str (x : Str) : Dt K H (.str x) (.str x)
  | lst {a : Addr} {vs : List V} {ds : List PyData} : H a = some (.lst vs) → DtAll K H vs ds → Dt K H (.ref a) (.list ds)
  | tup {a : Addr} {vs : List V} {ds : List PyData} : H a = some (.tup vs) → DtAll K H vs ds → Dt K H (.ref a) (.tuple ds)
  | dic {a : Addr} : H a = some (.dK []) → Dt K H (.ref a) (.dict [])
inductive DtAll (K : PySem.W.Frag) (H : Hp) : List V → List PyData → Prop
  | nil : DtAll K H [] []
  | cons {v : V} {vs : List V} {d : PyData} {ds : List PyData} : Dt K H v d → DtAll K H vs ds → DtAll K H (v :: vs) (d :: ds)
end
section
variable {K : PySem.W.Frag} {H H' : Hp}
mutual
theorem Dt.same (e : Same H H') : ∀ {d : PyData} {v : V}, Dt K H v d → Dt K H' v d
  | _, _, .non => .non
  | _, _, .bl b => .bl b
  | _, _, .int i => .int i
  | _, _, .str x => .str x
  | _, _, .lst h a => .lst (e _ _ h) (DtAll.same e a)
  | _, _, .tup h a => .tup (e _ _ h) (DtAll.same e a)
  | _, _, .dic h => .dic (e _ _ h)
theorem DtAll.same (e : Same H H') : ∀ {ds : List PyData} {vs : List V}, DtAll K H vs ds → DtAll K H' vs ds
  | _, _, .nil => .nil
  | _, _, .cons h a => .cons (Dt.same e h) (DtAll.same e a)
end
theorem DtAll.length {ds : List PyData} : ∀ {vs : List V}, DtAll K H vs ds → vs.length = ds.length := by
  induction ds with
  | nil => intro vs h; cases h; rfl
  | cons d ds ih => intro vs h; cases h with | cons h1 h2 => simp [ih h2]
theorem DtAll.append : ∀ {ds es : List PyData} {vs us : List V}, DtAll K H vs ds → DtAll K H us es → DtAll K H (vs ++ us) (ds ++ es)
  | _, _, _, _, .nil, h => h
  | _, _, _, _, .cons a b, h => .cons a (DtAll.append b h)
theorem DtAll.take : ∀ {ds : List PyData} {vs : List V} (n : Nat), DtAll K H vs ds → DtAll K H (vs.take n) (ds.take n)
  | _, _, 0, _ => .nil
  | _, _, _ + 1, .nil => .nil
  | _, _, n + 1, .cons a b => .cons a (DtAll.take n b)
theorem DtAll.drop : ∀ {ds : List PyData} {vs : List V} (n : Nat), DtAll K H vs ds → DtAll K H (vs.drop n) (ds.drop n)
  | _, _, 0, h => h
  | _, _, _ + 1, .nil => .nil
  | _, _, n + 1, .cons _ b => DtAll.drop n b
theorem DtAll.get : ∀ {ds : List PyData} {vs : List V} {i : Nat} {v : V}, DtAll K H vs ds → vs[i]? = some v → ∃ d, ds[i]? = some d ∧ Dt K H v d
  | _, _, i, _, .nil, h => by simp at h
  | _, _, 0, _, .cons a _, h => by simp at h; subst h; exact ⟨_, rfl, a⟩
  | _, _, i + 1, v, .cons _ b, h => by
    obtain ⟨d, h1, h2⟩ := DtAll.get (i := i) (v := v) b (by simpa using h)
    exact ⟨d, by simpa using h1, h2⟩
end

section
variable {X : Cx} {pins : List (Addr × Obj)} {σ : L2.St} {H : Hp} {s : Shared}
/-- what repr's rules of the library ask of a value -/
structure Shows (prog : Program) (w : World) (h : Heap) (u : Value) (d : PyData) : Prop where
  ex : ∃ as bs, Reads h u d as ∧ ReadAtMost h d.depth bs ∧ ReprK prog w bs h d.depth u d.shown
structure ShowsAll (prog : Program) (w : World) (h : Heap) (us : List Value) (ds : List PyData) : Prop where
  ex : ∃ as bs, ReadsAll h us ds as ∧ ReadAtMost h (PyData.depthAll ds) bs ∧ ReprAllK prog w bs h (PyData.depthAll ds) us (PyData.shownAll ds)
theorem dic_at (I : Inv X pins σ H s) {a : Addr} (h : H a = some (.dK [])) : (a == sysModules) = false ∧ ∃ o es ep, s.heap.get? a = some o ∧ o.cls = .type "dict" ∧ o.data = .dict es ep ∧ es.toList = [] := by
  obtain ⟨_, ne, vs, kv, o, es, ep, h1, h2, h3, _, h5, _⟩ := (show ObjOk X.prog X.w H s.heap a (.dK []) from I.hok a _ h)
  cases kv
  refine ⟨ne, o, es, ep, h1, h2.1, h3, ?_⟩
  cases q : es.toList with
  | nil => rfl
  | cons y ys => rw [q] at h5; cases h5
theorem lst_at (I : Inv X pins σ H s) {a : Addr} {vs : List V} (h : H a = some (.lst vs)) : ∃ its n, Vals vs its ∧ s.heap.get? a = some { cls := .type "list", data := .seq its.toArray n } := by
  obtain ⟨_, its, n, r, e⟩ := (show ObjOk X.prog X.w H s.heap a (.lst vs) from I.hok a _ h)
  exact ⟨its, n, r, e⟩
theorem tup_at (I : Inv X pins σ H s) {a : Addr} {vs : List V} (h : H a = some (.tup vs)) : ∃ its o n, Vals vs its ∧ s.heap.get? a = some o ∧ o.cls = .type "tuple" ∧ o.data = .seq its.toArray n := by
  obtain ⟨_, its, r, o, h1, h2, n, h3⟩ := (show ObjOk X.prog X.w H s.heap a (.tup vs) from I.hok a _ h)
  exact ⟨its, o, n, r, h1, h2, h3⟩
mutual
theorem Dt.shows (I : Inv X pins σ H s) : ∀ (d : PyData) (v : V) (u : Value), Dt X.K H v d → RelV v u → d.showable = true → d.shown.length ≤ sizeLine → Shows X.prog X.w s.heap u d
  | .none, _, _, h, r, _, _ => by
    cases h; cases r
    exact ⟨_, [], .none, (fun _ q => nomatch q), by simp only [PyData.shown]; exact .of_is ReprIs.none _ _ _⟩
  | .bool b, _, _, h, r, _, _ => by
    cases h; cases r
    exact ⟨_, [], .bool b, (fun _ q => nomatch q), by simp only [PyData.shown]; exact .of_is (ReprIs.bool b) _ _ _⟩
  | .int i, _, _, h, r, hs, _ => by
    cases h
    obtain ⟨t, rfl⟩ := r
    exact ⟨_, [], .int i t, (fun _ q => nomatch q), by simp only [PyData.shown]; exact .of_is (ReprIs.int t (by simpa [PyData.showable] using hs)) _ _ _⟩
  | .str x, _, _, h, r, _, hz => by
    cases h
    obtain ⟨t, rfl⟩ := r
    exact ⟨_, [], .str x t, (fun _ q => nomatch q), by simp only [PyData.shown]; exact .of_is (ReprIs.str x t (by simpa only [PyData.shown] using hz)) _ _ _⟩
  | .list ds, _, _, h, r, hs, hz => by
    cases h with
    | @lst a vs _ hl ha =>
      cases r
      have hz' : (listText (PyData.shownAll ds)).length ≤ sizeLine := by simpa only [PyData.shown] using hz
      obtain ⟨its, n, rv, e⟩ := lst_at I hl
      obtain ⟨as, bs, r4, rb, rk⟩ := (Dt.showsAll I ds vs its ha rv (by simpa [PyData.showable] using hs) (fun t ht => Nat.le_trans (listText_mem_le ht) hz')).ex
      have rr : Reads s.heap (.ref a) (.list ds) (a :: as) := .list e rfl rfl r4
      have nm : a ∉ bs := not_mem_of_deeper rr (by simp only [PyData.depth]; omega) rb
      refine ⟨_, a :: bs, rr, ReadAtMost.cons rr (by simp only [PyData.depth]; omega) rb, ?_⟩
      simp only [PyData.depth, PyData.shown]
      cases its with
      | nil =>
        cases r4
        simp only [PyData.shownAll, listText_nil]
        exact ReprK.listEmpty e rfl rfl
      | cons y ys => exact ReprK.list e rfl rfl nm (by simpa using rk.length_eq) (fun i z q => rk.item i z (by simpa using q))
  | .tuple ds, _, _, h, r, hs, hz => by
    cases h with
    | @tup a vs _ hl ha =>
      cases r
      have hz' : (tupleText (PyData.shownAll ds)).length ≤ sizeLine := by simpa only [PyData.shown] using hz
      obtain ⟨its, o, n, rv, e1, e2, e3⟩ := tup_at I hl
      obtain ⟨as, bs, r4, rb, rk⟩ := (Dt.showsAll I ds vs its ha rv (by simpa [PyData.showable] using hs) (fun t ht => Nat.le_trans (tupleText_mem_le ht) hz')).ex
      have rr : Reads s.heap (.ref a) (.tuple ds) as := .tuple e1 e2 e3 r4
      have nm : a ∉ bs := not_mem_of_deeper rr (by simp only [PyData.depth]; omega) rb
      refine ⟨_, a :: bs, rr, ReadAtMost.cons rr (by simp only [PyData.depth]; omega) rb, ?_⟩
      simp only [PyData.depth, PyData.shown]
      exact ReprK.tuple e1 e2 e3 nm rk
  | .dict _, _, _, h, r, _, _ => by
    cases h with
    | @dic a hd =>
      cases r
      obtain ⟨ne, o, es, ep, e1, e2, e3, e4⟩ := dic_at I hd
      have rr : Reads s.heap (.ref a) (.dict []) (a :: [] ++ []) := .dict e1 e2 e3 (by rw [e4]; exact .nil) (by rw [e4]; exact .nil)
      refine ⟨_, [a], rr, ReadAtMost.cons (n := 0) rr (Nat.zero_le _) (fun _ q => nomatch q), ?_⟩
      simp only [PyData.depth, PyData.shown, PyData.shownKv]
      exact ReprK.dict (d := 0) e1 e2 e3 ne (fun q => nomatch q) (by rw [e4]; exact .nil)
theorem Dt.showsAll (I : Inv X pins σ H s) : ∀ (ds : List PyData) (vs : List V) (us : List Value), DtAll X.K H vs ds → Vals vs us → PyData.showableAll ds = true → (∀ t ∈ PyData.shownAll ds, t.length ≤ sizeLine) → ShowsAll X.prog X.w s.heap us ds
  | [], _, _, h, r, _, _ => by
    cases h; cases r
    exact ⟨_, [], .nil, (fun _ q => nomatch q), by simp only [PyData.shownAll]; exact .nil⟩
  | d :: ds, _, _, h, r, hs, hz => by
    cases h with
    | cons h1 h2 =>
      cases r with
      | cons r1 r2 =>
        have hs' : d.showable = true ∧ PyData.showableAll ds = true := by simpa [PyData.showableAll] using hs
        obtain ⟨as, bs, a1, a2, a3⟩ := (Dt.shows I d _ _ h1 r1 hs'.1 (hz _ (by simp only [PyData.shownAll]; exact List.mem_cons_self ..))).ex
        obtain ⟨cs, es, c1, c2, c3⟩ := (Dt.showsAll I ds _ _ h2 r2 hs'.2 (fun t ht => hz t (by simp only [PyData.shownAll]; exact List.mem_cons_of_mem _ ht))).ex
        refine ⟨_, bs ++ es, .cons a1 c1, ?_, ?_⟩
        · simp only [PyData.depthAll]
          exact (a2.mono (Nat.le_max_left _ _)).append (c2.mono (Nat.le_max_right _ _))
        · simp only [PyData.depthAll, PyData.shownAll]
          exact .cons ((a3.more fun b hb => List.mem_append_left _ hb).level_le (Nat.le_max_left _ _)) (c3.more_le (fun b hb => List.mem_append_right _ hb) (Nat.le_max_right _ _))
end
end

/-- repr of data -/
def rReprD (K : PySem.W.Frag) : List V → Hp → VK → Prop := fun xs H Q => ∃ v d, xs = [v] ∧ Dt K H v d ∧ d.showable = true ∧ d.depth ≤ 60 ∧ d.shown.length ≤ sizeLine ∧ Q (.str d.shown) H
theorem call_reprD {X : Cx} (hg : X.A.guards = some []) (hu : X.A.units + 64 < cLine) : CallR X (.builtin "repr") (rReprD X.K) := by
  intro pins s σ H xs us Q I r h
  obtain ⟨v, d, rfl, hd, hs, hdep, hz, q⟩ := h
  obtain ⟨u, rfl, ru⟩ := vals1 r
  have keep : ∀ b o, s.heap.get? b = some o → s.heap.get? b = some o := fun _ _ e => e
  have fin : ∀ (h' : Heap) (t : Tok) (tk : Nat), (∀ b o, s.heap.get? b = some o → h'.get? b = some o) → EP X pins σ Q (.str d.shown t) { s with heap := h', toks := tk } :=
    fun h' t tk k => ⟨.str d.shown, H, I.kept k, ⟨t, rfl⟩, q⟩
  cases hd with
  | non => cases ru; simp only [PyData.shown] at fin; exact PySem.P.repr_of_none (fin _ _ _ keep)
  | bl b => cases ru; simp only [PyData.shown] at fin; exact PySem.P.repr_of_bool (fin _ _ _ keep)
  | int i => obtain ⟨t, rfl⟩ := ru; simp only [PyData.shown] at fin; exact PySem.P.repr_of_int (by simpa [PyData.showable] using hs) (fin _ _ _ keep)
  | str x => obtain ⟨t, rfl⟩ := ru; simp only [PyData.shown] at fin; exact PySem.P.repr_of_str (fin _ _ _ keep) (by simpa only [PyData.shown] using hz)
  | @lst a vs ds hl ha =>
    cases ru
    simp only [PyData.depth] at hdep
    simp only [PyData.shown] at fin
    have hz' : (listText (PyData.shownAll ds)).length ≤ sizeLine := by simpa only [PyData.shown] using hz
    obtain ⟨its, n, rv, e⟩ := lst_at I hl
    obtain ⟨as, bs, r4, rb, rk⟩ := (Dt.showsAll I ds vs its ha rv (by simpa [PyData.showable] using hs) (fun t ht => Nat.le_trans (listText_mem_le ht) hz')).ex
    have rr : Reads s.heap (.ref a) (.list ds) (a :: as) := .list e rfl rfl r4
    have nm : a ∉ bs := not_mem_of_deeper rr (by simp only [PyData.depth]; omega) rb
    refine call_repr_slot (T := "list") (by omega) ⟨_, e, rfl⟩ F.slot_list_repr.toG ?_
    cases its with
    | nil =>
      cases r4
      simp only [PyData.shownAll, listText_nil] at fin
      exact call_list_repr_empty ⟨_, e, rfl⟩ e rfl ⟨_, _, rfl, fin _ _ _ keep⟩
    | cons y ys =>
      exact call_list_reprK e rfl rfl nm (by simpa using rk.length_eq) (fun i z q => rk.item i z (by simpa using q)) (A := X.A.in1) hg (fun b _ => Clear.nil b) (by show X.A.units + 1 + _ < cLine; omega) keep (fun h' t tk k => ⟨_, _, rfl, fin h' t tk k⟩) hz'
  | @tup a vs ds hl ha =>
    cases ru
    simp only [PyData.depth] at hdep
    simp only [PyData.shown] at fin
    have hz' : (tupleText (PyData.shownAll ds)).length ≤ sizeLine := by simpa only [PyData.shown] using hz
    obtain ⟨its, o, n, rv, e1, e2, e3⟩ := tup_at I hl
    obtain ⟨as, bs, r4, rb, rk⟩ := (Dt.showsAll I ds vs its ha rv (by simpa [PyData.showable] using hs) (fun t ht => Nat.le_trans (tupleText_mem_le ht) hz')).ex
    have rr : Reads s.heap (.ref a) (.tuple ds) as := .tuple e1 e2 e3 r4
    have nm : a ∉ bs := not_mem_of_deeper rr (by simp only [PyData.depth]; omega) rb
    refine call_repr_slot (T := "tuple") (by omega) ⟨_, e1, e2⟩ F.slot_tuple_repr ?_
    exact call_tuple_reprK e1 e2 e3 nm rk (A := X.A.in1) hg (fun b _ => Clear.nil b) (by show X.A.units + 1 + _ < cLine; omega) keep (fun h' t tk k => ⟨_, _, rfl, fin h' t tk k⟩) hz'
  | @dic a hdk =>
    cases ru
    simp only [PyData.shown, PyData.shownKv] at fin
    obtain ⟨ne, o, es, ep, e1, e2, e3, e4⟩ := dic_at I hdk
    refine call_repr_slot (T := "dict") (by omega) ⟨_, e1, e2⟩ F.slot_dict_repr ?_
    exact call_dict_reprK (ps := []) (d := 0) (as := []) e1 e2 e3 ne (fun q => nomatch q) (by rw [e4]; exact .nil) (A := X.A.in1) hg (fun b _ => Clear.nil b) (by show X.A.units + 1 + _ < cLine; omega) keep (fun h' t tk k => ⟨_, _, rfl, fin h' t tk k⟩) (by simp only [PyData.shown, PyData.shownKv] at hz; exact hz)
end GL
/-! The end of a law whose def is promised where no guard of repr stands. -/
namespace GL
open PySem PySem.Spec PyProof.Rows L2 PySem.W

section
variable {P : Program} {w : World} {K : PySem.W.Frag} {mg mb : Str → Option Value} {k : Nat} {fa a : Addr} {fd : FuncData} {x : Str} {sp : Sp} {s₁ : Shared} {vs : List Value} {ns : List Int}
theorem nil_no {b : Addr} : b ∉ ([] : List Addr) := fun z => nomatch z
/-- the law's call, from one abstract heap in which the script alone may be tracked -/
theorem law_core (KI : K.In s₁.heap) (g1 : s₁.heap.Ns mainGlobals mg) (g2 : s₁.heap.Ns builtinsNs mb) (g3 : ∀ y : Str, y ≠ "__name__" → mb y = bootBuiltins y) (nl : s₁.heap.NoLimit) (hg : s₁.gens = #[])
    (ha : s₁.heap.get? a = some { cls := .type "list", data := .seq vs.toArray }) (hr : Room k callerA)
    (F : ∀ base : Heap, K.In base → base.Ns mainGlobals mg → Fg P w K mg base CX0 k fa fd [x] sp) (bd : ∀ (s : Shared) (u : Value), BindsTo s fd ⟨[u], []⟩ [(x, u)])
    (H : Hp) (on : Only H) (hq : sp [.ref a] H (fun v _ => v = .bl true) fun _ _ _ => False) (ok : HOk P w H s₁.heap) (one : ∀ b, H b ≠ none → b = a) (nk : H a ≠ none → K.lookup a = none) :
    codeAny (model P w) callerA (.call (.ref fa) ⟨[.ref a], []⟩) (fun r s' => r = .ok (.ret (.bool true)) ∧ OldK s₁.heap s'.heap ∧ s'.os = s₁.os ∧ AllBare s'.gens) s₁ := by
  have out : ∀ {b : Addr} {o : Obj}, s₁.heap.get? b = some o → (b = a → H a = none) → (hidT s₁.heap H).get? b = some o := fun {b o} e n => hidT_get e (by
    by_cases z : H b = none
    · exact z
    · have zz := one b z
      rw [zz]; exact n zz)
  have dct : ∀ {b : Addr} {o : Obj} {es : Array DictEntry} {ep : Nat}, s₁.heap.get? b = some o → o.data = .dict es ep → b ≠ a := fun {b o es ep} e d z => by
    rw [z, ha] at e
    cases e
    exact nomatch (show Data.seq vs.toArray _ = Data.dict es ep from d)
  have nsK : ∀ {b : Addr} {m : Str → Option Value}, s₁.heap.Ns b m → (hidT s₁.heap H).Ns b m := fun {b m} q => by
    obtain ⟨o, es, ep, e, d, r⟩ := q
    exact ⟨o, es, ep, out e (fun z => absurd z (dct e d)), d, r⟩
  have KB : K.In (hidT s₁.heap H) := fun b o e => out (KI b o e) fun z => by
    by_cases y : H a = none
    · exact y
    · rw [z, nk y] at e; cases e
  have md : Mod K mg (hidT s₁.heap H) := ⟨KB, nsK g1, ⟨mb, nsK g2, g3⟩, let ⟨mc, c1, c2⟩ := nl; ⟨mc, nsK c1, c2⟩⟩
  have ev : Env0 P w K mg (hidT s₁.heap H) callerA [] s₁ H := ⟨rfl, md, fun _ _ e => of_hidT e, Nat.le_of_eq (hidT_size _ _), trivial, fun b z => absurd z nil_no, ok, .of_eq hg⟩
  refine codeAny_mono ((F _ KB (nsK g1)).go callerA [] s₁ H ⟨[.ref a], []⟩ [.ref a] [.ref a] _ _ rfl hr ev (bd s₁ (.ref a)) (.cons rfl .nil) hq) fun r s' h => ?_
  match r, h with
  | .error e, h => exact h.elim
  | .ok .next, h => exact h.elim
  | .ok .brk, h => exact h.elim
  | .ok .cont, h => exact h.elim
  | .ok (.ret u), ⟨v, G, os, br, un, okG, rv, q⟩ =>
    cases (show v = .bl true from q)
    cases (show u = Value.bool true from rv)
    refine ⟨rfl, OldK.of_keep fun b o e => ?_, os, br⟩
    rcases on b with z | ⟨ob, xs, z⟩
    · exact un.keep b o e z nil_no nil_no
    · have e1 := (ok b _ z).1
      have e2 := (okG b _ (un.frzs b ob _ z)).1
      rw [e] at e1
      cases e1
      exact e2

theorem law_end (KI : K.In s₁.heap) (g1 : s₁.heap.Ns mainGlobals mg) (g2 : s₁.heap.Ns builtinsNs mb) (g3 : ∀ y : Str, y ≠ "__name__" → mb y = bootBuiltins y) (nl : s₁.heap.NoLimit) (hg : s₁.gens = #[])
    (ha : s₁.heap.get? a = some { cls := .type "list", data := .seq vs.toArray }) (hi : IntsAre vs ns) (hz : ns.length ≤ sizeLine) (hr : Room k callerA)
    (F : ∀ base : Heap, K.In base → base.Ns mainGlobals mg → Fg P w K mg base CX0 k fa fd [x] sp) (bd : ∀ (s : Shared) (u : Value), BindsTo s fd ⟨[u], []⟩ [(x, u)])
    (hsp : ∀ H : Hp, Only H → SqL K H a (ns.map V.int) → sp [.ref a] H (fun v _ => v = .bl true) fun _ _ _ => False) :
    codeAny (model P w) callerA (.call (.ref fa) ⟨[.ref a], []⟩) (fun r s' => r = .ok (.ret (.bool true)) ∧ OldK s₁.heap s'.heap ∧ s'.os = s₁.os ∧ AllBare s'.gens) s₁ := by
  have rv := vals_ints hi
  have ll : vs.length = ns.length := hi.length
  cases hk : K.lookup a with
  | some o =>
    have e := KI a o hk
    rw [ha] at e
    cases e
    have no : ∀ {b : Addr} {u : HO}, ((fun _ => none) : Hp) b ≠ some u := fun {b u} z => nomatch (show (none : Option HO) = some u from z)
    exact law_core KI g1 g2 g3 nl hg ha hr F bd (fun _ => none) (fun _ => .inl rfl) (hsp _ (fun _ => .inl rfl) (.inr ⟨_, vs.toArray, _, hk, rfl, rfl, rfl, by rw [List.size_toArray, ll]; exact hz, by simpa using rv⟩))
      (fun b u z => absurd z (no (b := b))) (fun b z => absurd rfl z) (fun z => absurd rfl z)
  | none =>
    have g : ∃ G : Hp, G a = some (.frz { cls := .type "list", data := .seq vs.toArray } (.lst (ns.map V.int))) ∧ ∀ b, b ≠ a → G b = none := ⟨fun b => if b = a then _ else none, if_pos rfl, fun b n => if_neg n⟩
    obtain ⟨G, y1, y2⟩ := g
    have on : Only G := fun b => by
      by_cases e : b = a
      · exact .inr ⟨_, _, e ▸ y1⟩
      · exact .inl (y2 b e)
    refine law_core KI g1 g2 g3 nl hg ha hr F bd G on (hsp G on (.inl (.inr ⟨_, y1⟩))) (fun b u z => ?_) (fun b z => ?_) fun _ => hk
    · by_cases e : b = a
      · subst e
        rw [y1] at z
        cases z
        exact ⟨ha, by rw [List.length_map]; exact hz, vs, _, rv, ha⟩
      · rw [y2 b e] at z; cases z
    · exact Classical.byContradiction fun e => z (y2 b e)
end

/-- the goal that the head leaves -/
theorem walk_g {l : PySem.W.OpenLaw} {n k : Nat} {q : Program} {loose : List Str} {XP : (Str → Option Value) → Heap → Prop} {YP : World → Heap → Prop} {d : DefRec} {K : Params → PySem.W.Frag} {sp : PySem.W.Frag → Sp} {x : Str}
    (hn : l.most = some n) (n2 : n ≤ sizeLine) (nd : d.params.defaults = []) (hr : Room k callerA) (hY : ∀ (w : World) (h : Heap), YP w h → (K w.params).In h)
    (F : ∀ (w : World) (mg : Str → Option Value) (fa : Addr) (h : Heap), (K w.params).In h → h.Ns mainGlobals mg → mg d.name = some (.ref fa) →
      ∃ fd : FuncData, (∀ (s : Shared) (u : Value), BindsTo s fd ⟨[u], []⟩ [(x, u)]) ∧ ∀ base : Heap, (K w.params).In base → base.Ns mainGlobals mg → Fg l.prog w (K w.params) mg base CX0 k fa fd [x] (sp (K w.params)))
    (hsp : ∀ (K : PySem.W.Frag) (H : Hp) (a : Addr) (ns : List Int), ns.length ≤ n → Only H → SqL K H a (ns.map V.int) → sp K [.ref a] H (fun v _ => v = .bl true) fun _ _ _ => False) :
    PySem.W.WalkO q loose XP YP l.row.toRowW d [] (fun f vs => PySem.call f vs) := by
  refine Att.attach_call hn nd fun w s₀ s₁ mg mb fa o pm cd doc a vs ns G Y ho hd hcd hmg hobj hints hlen hg => ?_
  have KI := hY w _ Y
  obtain ⟨fd, hb, hF⟩ := F w mg fa _ KI G.T.g hmg
  exact law_end KI G.T.g G.T.b G.T.builtins G.T.nolimit hg hobj hints (Nat.le_trans hlen n2) hr hF hb fun H on hS => hsp _ H a ns hlen on hS
end GL
namespace KC
open PySem L2 GL
theorem same_new {H : Hp} {p : Addr} (h : H p = none) (o : HO) : Same H (upd H p o) := fun b u q => by rw [upd_ne (ne_of_none q h)]; exact q
theorem same_grow {H H1 : Hp} {p : Addr} (h : H p = none) (e : Same H H1) (o : HO) : Same H (upd H1 p o) := fun b u q => by rw [upd_ne (ne_of_none q h)]; exact e b u q
structure Dfn (P : Program) (w : World) (K : PySem.W.Frag) (mg : Str → Option Value) (base : Heap) (name : Str) (k : Nat) (f : Addr) (fd : FuncData) (ps : List Str) (sp : Sp) : Prop where
  ok : FnOk P w K mg base CX0 k f fd ps sp
  b : L2.Binds K fd ps []
  m : mg name = some (.ref f)
  kp : PySem.W.keepIn K (.ref f) = true
/-- a def promised where no guard of repr stands -/
structure Gfn (P : Program) (w : World) (K : PySem.W.Frag) (mg : Str → Option Value) (base : Heap) (name : Str) (k : Nat) (f : Addr) (fd : FuncData) (ps : List Str) (sp : Sp) : Prop where
  ok : Fg P w K mg base CX0 k f fd ps sp
  b : L2.Binds K fd ps []
  m : mg name = some (.ref f)
  kp : PySem.W.keepIn K (.ref f) = true
/-- len of a list or tuple, the written part by its name -/
def rLenS (K : PySem.W.Frag) : List V → Hp → VK → Prop := fun xs H Q => ∃ (p : Addr) (ys : List V), xs = [.ref p] ∧ (SqL K H p ys ∨ SqT K H p ys) ∧ Q (.int ys.length) H
theorem call_lenS {X : Cx} : CallR X (.builtin "len") (rLenS X.K) := call_len_seq
/-! ### how long a value is when it is shown -/
mutual
def wt : PyData → Nat
  | .none => 4
  | .bool _ => 5
  | .int i => (PyData.int i).shown.length
  | .str x => (PyData.str x).shown.length
  | .list ds => wts ds + 3
  | .tuple ds => wts ds + 3
  | .dict _ => 2
def wts : List PyData → Nat
  | [] => 0
  | d :: ds => wt d + 2 + wts ds
end
theorem len_wts : ∀ ds : List PyData, ds.length ≤ wts ds
  | [] => Nat.le_refl _
  | d :: ds => by have := len_wts ds; simp only [wts, List.length_cons]; omega
theorem mem_wts {d : PyData} : ∀ {ds : List PyData}, d ∈ ds → wt d ≤ wts ds
  | e :: ds, h => by
    simp only [wts]
    rcases List.mem_cons.mp h with rfl | h
    · omega
    · have := mem_wts h; omega
/-! ### the deck: a list of a list of numbers and of how many were drawn -/
/-- the heap without the deck's two lists -/
def Hd (d c : Addr) (H : Hp) : Hp := fun b => if b = d ∨ b = c then none else H b
theorem hd_some {d c b : Addr} {H : Hp} {o : HO} (h : Hd d c H b = some o) : H b = some o ∧ b ≠ d ∧ b ≠ c := by
  unfold Hd at h
  by_cases e : b = d ∨ b = c
  · rw [if_pos e] at h; cases h
  · rw [if_neg e] at h; exact ⟨h, fun z => e (.inl z), fun z => e (.inr z)⟩
theorem hd_of {d c b : Addr} {H : Hp} {o : HO} (h : H b = some o) (n1 : b ≠ d) (n2 : b ≠ c) : Hd d c H b = some o := by
  unfold Hd
  rw [if_neg fun e => e.elim n1 n2]; exact h
theorem hd_sub {d c : Addr} {H : Hp} : Same (Hd d c H) H := fun _ _ h => (hd_some h).1
theorem hd_new {d c p : Addr} {H : Hp} (h : H p = none) (o : HO) : Same (Hd d c H) (Hd d c (upd H p o)) := fun b u q => by
  obtain ⟨q1, q2, q3⟩ := hd_some q
  exact hd_of (same_new h o b u q1) q2 q3
theorem hd_put {d c p : Addr} {H : Hp} (h : p = d ∨ p = c) (o : HO) : Same (Hd d c H) (Hd d c (upd H p o)) := fun b u q => by
  obtain ⟨q1, q2, q3⟩ := hd_some q
  refine hd_of ?_ q2 q3
  rw [upd_ne (fun e => h.elim (fun z => q2 (e.trans z)) fun z => q3 (e.trans z))]; exact q1
theorem hd_same {d c : Addr} {H H' : Hp} (h : Same H H') : Same (Hd d c H) (Hd d c H') := fun b u q => by
  obtain ⟨q1, q2, q3⟩ := hd_some q
  exact hd_of (h b u q1) q2 q3

/-- the deck at d, its cells at c, with at most m numbers drawn -/
structure Deck (H : Hp) (d c : Addr) (m : Nat) : Prop where
  ne : d ≠ c
  ex : ∃ (L : List Int) (n : Nat), H d = some (.lst [.ref c, .int n]) ∧ H c = some (.lst (L.map V.int)) ∧ L.length ≤ 63 ∧ (∀ x ∈ L, 0 ≤ x) ∧ n ≤ m
theorem Deck.same {H H' : Hp} {d c : Addr} {m : Nat} (D : Deck H d c m) (s : Same H H') : Deck H' d c m := by
  obtain ⟨L, n, h1, h2, h3⟩ := D.ex
  exact ⟨D.ne, L, n, s _ _ h1, s _ _ h2, h3⟩
theorem Deck.mono {H : Hp} {d c : Addr} {m k : Nat} (D : Deck H d c m) (h : m ≤ k) : Deck H d c k := by
  obtain ⟨L, n, h1, h2, h3, h4, h5⟩ := D.ex
  exact ⟨D.ne, L, n, h1, h2, h3, h4, Nat.le_trans h5 h⟩
theorem Deck.new {H : Hp} {d c : Addr} {m : Nat} (D : Deck H d c m) {p : Addr} (h : H p = none) (o : HO) : Deck (upd H p o) d c m := D.same (same_new h o)

def spDeck (K : PySem.W.Frag) : Sp := fun vs H Q _ => ∃ (a : Addr) (ns : List Int), vs = [.ref a] ∧ SqL K H a (ns.map V.int) ∧ ns.length ≤ 63 ∧ ∀ d c H', Same H H' → H d = none → H c = none → Deck H' d c 0 → Q (.ref d) H'
def spDraw : Sp := fun vs H Q _ => ∃ (d c : Addr) (many : Int) (m : Nat), vs = [.ref d, .int many] ∧ Deck H d c m ∧ m ≤ 1000000000 ∧ 0 < many ∧ many < 1073741824 ∧
  ∀ (r : Int) (H' : Hp), 0 ≤ r → r < many → Deck H' d c (m + 1) → Same (Hd d c H) (Hd d c H') → Q (.int r) H'
def spOne : Sp := fun vs H Q _ => ∃ (d c a : Addr) (xs : List V) (m : Nat), vs = [.ref d, .ref a] ∧ Deck H d c m ∧ m ≤ 1000000000 ∧ Hd d c H a = some (.lst xs) ∧ 0 < xs.length ∧ xs.length ≤ 100000 ∧
  ∀ (v : V) (H' : Hp), v ∈ xs → Deck H' d c (m + 1) → Same (Hd d c H) (Hd d c H') → Q v H'

def rAbs : List V → Hp → VK → Prop := fun xs H Q => ∃ i : Int, xs = [.int i] ∧ Q (.int (if i < 0 then -i else i)) H
theorem call_absS {X : Cx} : CallR X (.builtin "abs") rAbs := call_abs
theorem cut_mem {xs : List V} {lo hi : Option Int} {x : V} (h : x ∈ cutV xs lo hi) : x ∈ xs := List.mem_of_mem_drop (List.mem_of_mem_take h)

/-! ### machines that are drawn -/
def emp : Hp := fun _ => none
theorem emp_same {H : Hp} : Same emp H := fun _ _ h => nomatch (show (none : Option HO) = some _ from h)
/-- one more thing hidden -/
def Hr (R : Addr) (H : Hp) : Hp := fun b => if b = R then none else H b
theorem hr_some {R b : Addr} {H : Hp} {o : HO} (h : Hr R H b = some o) : H b = some o ∧ b ≠ R := by
  unfold Hr at h
  by_cases e : b = R
  · rw [if_pos e] at h; cases h
  · rw [if_neg e] at h; exact ⟨h, e⟩
theorem hr_of {R b : Addr} {H : Hp} {o : HO} (h : H b = some o) (n : b ≠ R) : Hr R H b = some o := by
  unfold Hr; rw [if_neg n]; exact h
theorem hr_sub {R : Addr} {H : Hp} : Same (Hr R H) H := fun _ _ h => (hr_some h).1
theorem hr_same {R : Addr} {H H' : Hp} (s : Same H H') : Same (Hr R H) (Hr R H') := fun b o h => hr_of (s _ _ (hr_some h).1) (hr_some h).2
theorem hr_put {R d c : Addr} {G : Hp} {o : HO} : Same (Hr R (Hd d c G)) (Hr R (Hd d c (upd G R o))) := fun b u h => by
  obtain ⟨h1, h2⟩ := hr_some h
  obtain ⟨h3, h4, h5⟩ := hd_some h1
  exact hr_of (hd_of (by rw [upd_ne h2]; exact h3) h4 h5) h2
theorem hd_none {d c p : Addr} {H : Hp} (n : H p = none) : Hd d c H p = none := by
  unfold Hd
  split
  · rfl
  · exact n
theorem hd_grow {d c p : Addr} {H G : Hp} (n : Hd d c H p = none) (s : Same (Hd d c H) (Hd d c G)) (o : HO) : Same (Hd d c H) (Hd d c (upd G p o)) := fun b u h => by
  obtain ⟨_, h2, h3⟩ := hd_some h
  exact hd_of (by rw [upd_ne (ne_of_none h n)]; exact (hd_some (s _ _ h)).1) h2 h3
theorem Deck.put {H : Hp} {d c p : Addr} {m : Nat} (D : Deck H d c m) (n1 : p ≠ d) (n2 : p ≠ c) (o : HO) : Deck (upd H p o) d c m := by
  obtain ⟨L, n, h1, h2, h3⟩ := D.ex
  exact ⟨D.ne, L, n, by rw [upd_ne n1.symm]; exact h1, by rw [upd_ne n2.symm]; exact h2, h3⟩
theorem Deck.free {H : Hp} {d c p : Addr} {m : Nat} (D : Deck H d c m) (n : H p = none) : p ≠ d ∧ p ≠ c := by
  obtain ⟨L, k, h1, h2, h3⟩ := D.ex
  exact ⟨(ne_of_none h1 n).symm, (ne_of_none h2 n).symm⟩

def IsRow (l n : Nat) (r : PyData) : Prop := ∃ xs, r = .tuple xs ∧ xs.length = l ∧ ∀ x ∈ xs, x = .none ∨ ∃ i : Int, x = .int i ∧ 0 ≤ i ∧ i < n
def IsMach (l n : Nat) (md : PyData) : Prop := ∃ (rs : List PyData) (bs : List Bool), md = .tuple [.int l, .tuple rs, .tuple (bs.map .bool)] ∧ rs.length = n ∧ bs.length = n ∧ ∀ r ∈ rs, IsRow l n r
def spMach (K : PySem.W.Frag) : Sp := fun vs H Q _ => ∃ (d c : Addr) (l n m : Nat), vs = [.ref d, .int l, .int n] ∧ Deck H d c m ∧ m ≤ 900000000 ∧ 1 ≤ l ∧ l ≤ 4 ∧ 1 ≤ n ∧ n ≤ 400 ∧
  ∀ (p : Addr) (md : PyData) (H' : Hp), IsMach l n md → Dt K (Hd d c H') (.ref p) md → Deck H' d c (m + 4000) → Same (Hd d c H) (Hd d c H') → Q (.ref p) H'
theorem bools_dt {K : PySem.W.Frag} {H : Hp} : ∀ bs : List Bool, DtAll K H (bs.map V.bl) (bs.map .bool)
  | [] => .nil
  | b :: bs => .cons (.bl b) (bools_dt bs)

/-! ### a list against an empty one, a tuple against an empty one -/
def rNe0 : R2 := fun x y H Q => ∃ (a b : Addr) (xs : List V), x = .ref a ∧ y = .ref b ∧ H a = some (.lst xs) ∧ H b = some (.lst []) ∧ Q (.bl (!xs.isEmpty)) H
def rEq0 : R2 := fun x y H Q => ∃ (a b : Addr) (xs : List V), x = .ref a ∧ y = .ref b ∧ H a = some (.tup xs) ∧ H b = some (.tup []) ∧ Q (.bl xs.isEmpty) H
theorem op_ne0 {X : Cx} (hu : X.A.units < cLine) : OpR X (compareOp .NotEq) rNe0 := by
  intro pins s σ H x y v u Q I rx ry h
  obtain ⟨a, b, xs, rfl, rfl, ha, hb, q⟩ := h
  cases rx
  cases ry
  obtain ⟨its, n, rv, e⟩ := lst_at I ha
  obtain ⟨its2, n2, rv2, e2⟩ := lst_at I hb
  cases rv2
  have l1 : s.heap.IsList a its.toArray := ⟨_, e, rfl, n, rfl⟩
  have l2 : s.heap.IsList b ([] : List Value).toArray := ⟨_, e2, rfl, n2, rfl⟩
  cases its with
  | nil =>
    cases rv
    exact SeqAt.RcNeAt.lists (e := fun _ => true) l1 l2 rfl hu (fun j h1 _ => absurd h1 (Nat.not_lt_zero j)) X.prog X.w _ _ ⟨.bl false, H, I, rfl, q⟩
  | cons y ys =>
    cases rv with
    | cons r1 r2 => exact SeqAt.RcNeAt.lists_lengths l1 l2 rfl hu X.prog X.w _ _ ⟨.bl true, H, I, rfl, q⟩
theorem op_eq0 {X : Cx} (hu : X.A.units < cLine) : OpR X (compareOp .Eq) rEq0 := by
  intro pins s σ H x y v u Q I rx ry h
  obtain ⟨a, b, xs, rfl, rfl, ha, hb, q⟩ := h
  cases rx
  cases ry
  obtain ⟨its, o, n, rv, e, ec, ed⟩ := tup_at I ha
  obtain ⟨its2, o2, n2, rv2, e2, ec2, ed2⟩ := tup_at I hb
  cases rv2
  have l1 : s.heap.IsTuple a its.toArray := ⟨_, e, ec, n, ed⟩
  have l2 : s.heap.IsTuple b ([] : List Value).toArray := ⟨_, e2, ec2, n2, ed2⟩
  cases its with
  | nil =>
    cases rv
    exact SeqAt.RcAt.tuples (e := fun _ => true) l1 l2 hu (fun j h1 _ => absurd h1 (Nat.not_lt_zero j)) X.prog X.w _ _ ⟨.bl true, H, I, rfl, q⟩
  | cons y ys =>
    cases rv with
    | cons r1 r2 => exact SeqAt.RcAt.tuples (e := fun _ => true) l1 l2 hu (fun j _ h2 => absurd h2 (Nat.not_lt_zero j)) X.prog X.w _ _ ⟨.bl false, H, I, rfl, q⟩

/-! ### what can be shown -/
mutual
theorem shown_wt {K : PySem.W.Frag} {H : Hp} : ∀ (d : PyData) (v : V), Dt K H v d → d.shown.length ≤ wt d
  | .none, _, _ => by decide +kernel
  | .bool b, _, _ => by cases b <;> decide +kernel
  | .int _, _, _ => Nat.le_refl _
  | .str _, _, _ => Nat.le_refl _
  | .list ds, _, h => by
    cases h with
    | lst _ ha =>
      have h1 := listText_len_le (PyData.shownAll ds)
      have h2 := shownAll_wt ds _ ha
      simp only [PyData.shown, wt]
      omega
  | .tuple ds, _, h => by
    cases h with
    | tup _ ha =>
      have h1 := tupleText_len_le (PyData.shownAll ds)
      have h2 := shownAll_wt ds _ ha
      simp only [PyData.shown, wt]
      omega
  | .dict _, _, h => by
    cases h with
    | dic _ =>
      simp only [PyData.shown, PyData.shownKv, wt]
      decide +kernel
theorem shownAll_wt {K : PySem.W.Frag} {H : Hp} : ∀ (ds : List PyData) (vs : List V), DtAll K H vs ds → ((PyData.shownAll ds).map (·.length)).sum + 2 * (PyData.shownAll ds).length ≤ wts ds
  | [], _, _ => by simp [PyData.shownAll, wts]
  | d :: ds, _, h => by
    cases h with
    | cons h1 h2 =>
      have e1 := shown_wt d _ h1
      have e2 := shownAll_wt ds _ h2
      simp only [PyData.shownAll, wts, List.map_cons, List.sum_cons, List.length_cons]
      omega
end
/-- small, shallow, with ints that can be shown -/
structure Fit (n k : Nat) (d : PyData) : Prop where
  w : wt d ≤ n
  k : d.depth ≤ k
  s : d.showable = true
structure FitAll (n k : Nat) (ds : List PyData) : Prop where
  w : wts ds ≤ n
  k : PyData.depthAll ds ≤ k
  s : PyData.showableAll ds = true
theorem Fit.mono {n k m j : Nat} {d : PyData} (h : Fit n k d) (a : n ≤ m) (b : k ≤ j) : Fit m j d := ⟨Nat.le_trans h.w a, Nat.le_trans h.k b, h.s⟩
theorem Fit.tup {n k : Nat} {ds : List PyData} (h : FitAll n k ds) : Fit (n + 3) (k + 1) (.tuple ds) := ⟨by simp only [wt]; have := h.w; omega, by simp only [PyData.depth]; have := h.k; omega, by simp only [PyData.showable]; exact h.s⟩
theorem Fit.lst {n k : Nat} {ds : List PyData} (h : FitAll n k ds) : Fit (n + 3) (k + 1) (.list ds) := ⟨by simp only [wt]; have := h.w; omega, by simp only [PyData.depth]; have := h.k; omega, by simp only [PyData.showable]; exact h.s⟩
theorem FitAll.nil {k : Nat} : FitAll 0 k [] := ⟨by simp only [wts]; exact Nat.le_refl 0, by simp only [PyData.depthAll]; exact Nat.zero_le _, by simp only [PyData.showableAll]⟩
theorem FitAll.cons {n m k : Nat} {d : PyData} {ds : List PyData} (a : Fit n k d) (b : FitAll m k ds) : FitAll (n + 2 + m) k (d :: ds) :=
  ⟨by simp only [wts]; have := a.w; have := b.w; omega, by simp only [PyData.depthAll]; exact Nat.max_le.mpr ⟨a.k, b.k⟩, by simp only [PyData.showableAll, a.s, b.s, Bool.and_self]⟩
theorem FitAll.mono {n k m j : Nat} {ds : List PyData} (h : FitAll n k ds) (a : n ≤ m) (b : k ≤ j) : FitAll m j ds := ⟨Nat.le_trans h.w a, Nat.le_trans h.k b, h.s⟩
theorem FitAll.append {n m k : Nat} : ∀ {ds es : List PyData}, FitAll n k ds → FitAll m k es → FitAll (n + m) k (ds ++ es)
  | [], es, _, b => b.mono (Nat.le_add_left _ _) (Nat.le_refl _)
  | d :: ds, es, a, b => by
    have w := a.w
    have kk := a.k
    have ss := a.s
    simp only [wts] at w
    simp only [PyData.depthAll] at kk
    simp only [PyData.showableAll, Bool.and_eq_true] at ss
    have r : FitAll (wts ds + m) k (ds ++ es) := FitAll.append ⟨Nat.le_refl _, Nat.le_trans (Nat.le_max_right _ _) kk, ss.2⟩ b
    exact (FitAll.cons (n := wt d) ⟨Nat.le_refl _, Nat.le_trans (Nat.le_max_left _ _) kk, ss.1⟩ r).mono (by omega) (Nat.le_refl _)
theorem FitAll.take {n k : Nat} : ∀ {ds : List PyData} (i : Nat), FitAll n k ds → FitAll n k (ds.take i)
  | ds, 0, _ => by rw [List.take_zero]; exact FitAll.nil.mono (Nat.zero_le _) (Nat.le_refl _)
  | [], i + 1, a => a
  | d :: ds, i + 1, a => by
    have w := a.w
    have kk := a.k
    have ss := a.s
    simp only [wts] at w
    simp only [PyData.depthAll] at kk
    simp only [PyData.showableAll, Bool.and_eq_true] at ss
    have r : FitAll (wts ds) k (ds.take i) := FitAll.take i ⟨Nat.le_refl _, Nat.le_trans (Nat.le_max_right _ _) kk, ss.2⟩
    exact (FitAll.cons (n := wt d) ⟨Nat.le_refl _, Nat.le_trans (Nat.le_max_left _ _) kk, ss.1⟩ r).mono (by omega) (Nat.le_refl _)
theorem FitAll.drop {n k : Nat} : ∀ {ds : List PyData} (i : Nat), FitAll n k ds → FitAll n k (ds.drop i)
  | ds, 0, a => a
  | [], i + 1, a => a
  | d :: ds, i + 1, a => by
    have w := a.w
    have kk := a.k
    have ss := a.s
    simp only [wts] at w
    simp only [PyData.depthAll] at kk
    simp only [PyData.showableAll, Bool.and_eq_true] at ss
    have r : FitAll (wts ds) k (ds.drop i) := FitAll.drop i ⟨Nat.le_refl _, Nat.le_trans (Nat.le_max_right _ _) kk, ss.2⟩
    exact r.mono (by omega) (Nat.le_refl _)
theorem FitAll.mem {n k : Nat} {d : PyData} : ∀ {ds : List PyData}, FitAll n k ds → d ∈ ds → Fit n k d
  | e :: ds, a, h => by
    have w := a.w
    have kk := a.k
    have ss := a.s
    simp only [wts] at w
    simp only [PyData.depthAll] at kk
    simp only [PyData.showableAll, Bool.and_eq_true] at ss
    rcases List.mem_cons.mp h with rfl | h
    · exact ⟨by omega, Nat.le_trans (Nat.le_max_left _ _) kk, ss.1⟩
    · exact FitAll.mem (ds := ds) ⟨by omega, Nat.le_trans (Nat.le_max_right _ _) kk, ss.2⟩ h
theorem Fit.all {n k : Nat} {ds : List PyData} (h : Fit n k (.tuple ds)) : FitAll n k ds ∧ PyData.depthAll ds + 1 ≤ k := by
  have w := h.w
  have kk := h.k
  have ss := h.s
  simp only [wt] at w
  simp only [PyData.depth] at kk
  simp only [PyData.showable] at ss
  exact ⟨⟨by omega, by omega, ss⟩, kk⟩
theorem fit_int {i : Int} {n : Nat} (h : i.natAbs < 10 ^ 41) (hn : 42 ≤ n) {k : Nat} : Fit n k (.int i) := by
  have e := int_text_length_le10 (k := 41) (by decide) h
  have l : wt (.int i) = (toString i).length := by simp only [wt, PyData.shown]; exact ofString_length _
  refine ⟨by rw [l]; omega, by simp only [PyData.depth]; exact Nat.zero_le _, ?_⟩
  simp only [PyData.showable, decide_eq_true_eq]
  have h2 : i.natAbs < 2 ^ 1920 := Nat.lt_trans h (by decide +kernel)
  by_cases z : i.natAbs = 0
  · rw [z]; decide
  · exact (Nat.log2_lt z).mpr h2
theorem fit_non {n k : Nat} (h : 5 ≤ n) : Fit n k .none := ⟨by simp only [wt]; omega, by simp only [PyData.depth]; exact Nat.zero_le _, by simp only [PyData.showable]⟩
theorem fit_bl {n k : Nat} {b : Bool} (h : 5 ≤ n) : Fit n k (.bool b) := ⟨by simp only [wt]; omega, by simp only [PyData.depth]; exact Nat.zero_le _, by simp only [PyData.showable]⟩
theorem fit_dic {n k : Nat} (h : 2 ≤ n) (hk : 1 ≤ k) : Fit n k (.dict []) := ⟨by simp only [wt]; omega, by simp only [PyData.depth, PyData.depthKv]; omega, by simp only [PyData.showable, PyData.showableKv]⟩
theorem fit_str {n k m : Nat} {x : Str} (e : (PyData.str x).shown.length ≤ m) (h : m ≤ n) : Fit n k (.str x) := ⟨by simp only [wt]; omega, by simp only [PyData.depth]; exact Nat.zero_le _, by simp only [PyData.showable]⟩
theorem fit_mach {l n : Nat} {md : PyData} (h : IsMach l n md) (hl : l ≤ 4) (hn : n ≤ 400) : Fit (188 * n + 60) 3 md := by
  obtain ⟨rs, bs, rfl, h1, h2, h3⟩ := h
  have row : ∀ xs : List PyData, (∀ x ∈ xs, x = .none ∨ ∃ i : Int, x = .int i ∧ 0 ≤ i ∧ i < n) → FitAll (44 * xs.length) 0 xs := by
    intro xs
    induction xs with
    | nil => intro _; exact FitAll.nil
    | cons x xs ih =>
      intro hx
      have a : Fit 42 0 x := by
        rcases hx x List.mem_cons_self with rfl | ⟨i, rfl, i0, i1⟩
        · exact fit_non (by decide)
        · exact fit_int (by have : i.natAbs < 400 := by omega
                            omega) (by decide)
      exact (FitAll.cons a (ih fun y hy => hx y (List.mem_cons_of_mem _ hy))).mono (by rw [List.length_cons]; omega) (Nat.le_refl _)
  have rows : ∀ rs : List PyData, (∀ r ∈ rs, IsRow l n r) → FitAll (181 * rs.length) 1 rs := by
    intro rs
    induction rs with
    | nil => intro _; exact FitAll.nil
    | cons r rs ih =>
      intro hr
      obtain ⟨xs, rfl, x1, x2⟩ := hr r List.mem_cons_self
      have a := Fit.tup (row xs x2)
      exact (FitAll.cons a (ih fun y hy => hr y (List.mem_cons_of_mem _ hy))).mono (by rw [List.length_cons, x1]; omega) (Nat.le_refl _)
  have bools : ∀ bs : List Bool, FitAll (7 * bs.length) 1 (bs.map PyData.bool) := by
    intro bs
    induction bs with
    | nil => exact FitAll.nil
    | cons b bs ih => exact (FitAll.cons (n := 5) (fit_bl (by decide)) ih).mono (by rw [List.length_cons]; omega) (Nat.le_refl _)
  have r1 := rows rs h3
  rw [h1] at r1
  have r2 := bools bs
  rw [h2] at r2
  have il : (l : Int).natAbs < 10 ^ 41 := Nat.lt_of_lt_of_le (show (l : Int).natAbs < 5 by omega) (by decide +kernel)
  exact (Fit.tup (FitAll.cons (fit_int (n := 42) il (by decide)) (FitAll.cons (Fit.tup r1) (FitAll.cons (Fit.tup r2) FitAll.nil)))).mono (by omega) (Nat.le_refl _)

/-! ### slices and sums of tuples, one way each -/
def rSlD : V → Option Int → Option Int → Hp → VK → Prop := fun x lo hi H Q => ∃ (a : Addr) (xs : List V), x = .ref a ∧ H a = some (.tup xs) ∧ ∀ (b : Addr) (G : Hp), Same H G → G b = some (.tup (cutV xs lo hi)) → Q (.ref b) G
theorem cut_whole {xs : List V} {lo hi : Option Int} (h : HT.sIx xs.length 0 lo = 0 ∧ HT.sIx xs.length xs.length hi = xs.length) : cutV xs lo hi = xs := by
  unfold cutV
  rw [h.1, h.2, List.drop_zero, Nat.sub_zero, List.take_length]
theorem sl_tupD {X : Cx} : SlR X rSlD := by
  intro pins s σ H x v vl vu lo hi sl Q I rx hs pl pu h
  obtain ⟨a, xs, rfl, ha, q⟩ := h
  exact sl_tupA pins s σ H _ v vl vu lo hi sl Q I rx hs pl pu ⟨a, xs, rfl, .inl (.inl ha), fun hw => q a H (Same.refl H) (by rw [cut_whole hw]; exact ha), fun _ p np => q p _ (same_new np _) upd_same⟩
def rCatD : R2 := fun x y H Q => ∃ (a b : Addr) (xs ys : List V), x = .ref a ∧ y = .ref b ∧ H a = some (.tup xs) ∧ H b = some (.tup ys) ∧ xs.length + ys.length ≤ sizeLine ∧ ∀ (p : Addr) (G : Hp), Same H G → G p = some (.tup (xs ++ ys)) → Q (.ref p) G
theorem op_catD {X : Cx} : OpR X (binaryOp .Add) rCatD := by
  intro pins s σ H x y v u Q I rx ry h
  obtain ⟨a, b, xs, ys, rfl, rfl, ha, hb, hz, q⟩ := h
  refine op_catA pins s σ H _ _ v u Q I rx ry ⟨a, b, xs, ys, rfl, rfl, .inl (.inl ha), .inl (.inl hb), hz, fun e => ?_, fun _ e => ?_, fun _ _ p np => q p _ (same_new np _) upd_same⟩
  · subst e; exact q b H (Same.refl H) hb
  · subst e; exact q a H (Same.refl H) (by rw [List.append_nil]; exact ha)
theorem cut_dt {K : PySem.W.Frag} {H : Hp} {vs : List V} {ds : List PyData} (lo hi : Option Int) (h : DtAll K H vs ds) : ∃ es, DtAll K H (cutV vs lo hi) es ∧ ∀ n k, FitAll n k ds → FitAll n k es :=
  ⟨_, (h.drop _).take _, fun _ _ f => (f.drop _).take _⟩
theorem Deck.tup {H : Hp} {d c b : Addr} {m : Nat} {xs : List V} (D : Deck H d c m) (h : H b = some (.tup xs)) : Hd d c H b = some (.tup xs) := by
  obtain ⟨L, n, h1, h2, _⟩ := D.ex
  exact hd_of h (ne_of h h1 fun z => nomatch z) (ne_of h h2 fun z => nomatch z)

/-- where the top has left a def -/
structure DF (K : PySem.W.Frag) (x : Str) (st : Stmt) (f : Addr) (fd : FuncData) : Prop where
  ns : PySem.W.nsIn K mainGlobals x = some (some (.ref f))
  fn : Fun K x x st f fd
theorem df {K : PySem.W.Frag} {x : Str} {st : Stmt} {f : Addr} {oc : Value} {od an : Option Addr} {osl : Array (Option Value)} {kV doc pm cdv ct : Value} (a : PySem.W.nsIn K mainGlobals x = some (some (.ref f)))
    (l : K.lookup f = some ⟨oc, od, .func (PySem.W.fnOf x x (defArgs st) (defBody st) (defScope st) .none kV doc pm an cdv ct), osl⟩) (c : PySem.W.codeIn K cdv x = true) (k : PySem.W.keepIn K (.ref f) = true) :
    DF K x st f (PySem.W.fnOf x x (defArgs st) (defBody st) (defScope st) .none kV doc pm an cdv ct) := ⟨a, fun_mk l c k⟩
/-- the names that the deck's defs use -/
structure TxC (mg : Str → Option Value) : Prop where
  int : mg "int" = none
  tuple : mg "tuple" = none
  len : mg "len" = none
  abs : mg "abs" = none
  range : mg "range" = none
end KC
/-! t[::-1] of a tuple -/
namespace GL
open PySem PySem.Spec PyProof.Rows L2 HT
theorem back_places (n : Nat) : Builtin.Slice.sliceAdjust none none (-1) (n : Int) = ((n : Int) - 1, -1) ∧ Builtin.Slice.slicePlaces ((n : Int) - 1) (-1) (-1) = n := by
  refine ⟨rfl, ?_⟩
  unfold Builtin.Slice.slicePlaces
  rw [if_neg (by decide)]
  by_cases h : (n : Int) - 1 > -1
  · rw [if_pos h]
    have e : ((n : Int) - 1 - -1 - 1) / (- -1) = (n : Int) - 1 := by
      rw [show ((n : Int) - 1 - -1 - 1) = (n : Int) - 1 by omega, Int.neg_neg, Int.ediv_one]
    rw [e]
    omega
  · rw [if_neg h]
    omega
theorem back_pick (xs : Array Value) : ((List.range xs.size).filterMap fun (k : Nat) => xs[(((xs.size : Nat) : Int) - 1 + (k : Int) * (-1)).toNat]?).toArray = xs.toList.reverse.toArray := by
  have e1 : (fun (k : Nat) => xs[(((xs.size : Nat) : Int) - 1 + (k : Int) * (-1)).toNat]?) = (fun i => xs[i]?) ∘ fun k => xs.size - 1 - k := by
    funext k
    show xs[_]? = xs[xs.size - 1 - k]?
    congr 1
    omega
  have e2 := pick_gen xs 0 xs.size
  have e3 : (fun (m : Nat) => xs[(((0 : Nat) : Int) + (m : Int) * 1).toNat]?) = fun i => xs[i]? := by
    funext m
    congr 1
    omega
  rw [e3] at e2
  have e4 : (List.range xs.size).filterMap (fun i => xs[i]?) = xs.toList := by
    have e5 : (List.range xs.size).filterMap (fun i => xs[i]?) = List.take xs.size xs.toList := by simpa using congrArg Array.toList e2
    rw [e5]
    exact List.take_of_length_le (by simp)
  rw [e1, ← List.filterMap_map, PySem.W.krv_range, List.filterMap_reverse, e4]
section
variable {prog : Program} {w : World} {A : Around} {E : Value → Shared → Prop} {s : Shared}
theorem back_applied {sl : Addr} {vc : Value} {n : Nat} {Q : Int × Int × Nat → Shared → Prop} (hs : s.heap.IsSliceOf sl .none .none vc) (pc : IsPart vc (some (-1))) (h : Q (((n : Int) - 1), -1, n) s) :
    wpAny (model prog w) A (Builtin.Slice.sliceApplied (.ref sl) (pure (n : Int))) Q E s := by
  obtain ⟨os, ho, hc, hd⟩ := id hs
  unfold Builtin.Slice.sliceApplied Builtin.Slice.sliceFields
  refine wpAny_bind (wpAny_bind (wpAny_field ho hd (x := .none) rfl (wpAny_bind (wpAny_field ho hd (x := .none) rfl (wpAny_bind (wpAny_field ho hd (x := vc) rfl (wpAny_pure ?_)))))))
  refine wpAny_bind (slicePart_ pc ?_)
  show wpAny _ _ (if ((-1 : Int) == 0) = true then _ else _) _ _ s
  rw [if_neg (by decide)]
  refine wpAny_bind (slicePart_ .none (wpAny_bind (slicePart_ .none (wpAny_bind (wpAny_pure ?_)))))
  show wpAny _ _ (match Builtin.Slice.sliceAdjust none none (-1) (n : Int) with | (lo, hi) => pure (lo, (-1 : Int), Builtin.Slice.slicePlaces lo hi (-1))) _ _ s
  rw [(back_places n).1]
  show wpAny _ _ (pure (((n : Int) - 1), (-1 : Int), Builtin.Slice.slicePlaces ((n : Int) - 1) (-1) (-1))) _ _ s
  rw [(back_places n).2]
  exact wpAny_pure h
theorem back_item {t sl : Addr} {xs : Array Value} {vc : Value} {Q : Value → Shared → Prop} (ht : IsTup s.heap t xs) (hs : s.heap.IsSliceOf sl .none .none vc) (pc : IsPart vc (some (-1)))
    (h : Q (.ref s.heap.objs.size) { s with heap := s.heap.push { cls := .type "tuple", data := .seq xs.toList.reverse.toArray } }) (hz : xs.size ≤ sizeLine) : wpAny (model prog w) A (getItem (.ref t) (.ref sl)) Q E s := by
  have ok : sizeOk (.seq xs.toList.reverse.toArray) := by
    show xs.toList.reverse.toArray.size ≤ sizeLine
    rw [List.size_toArray, List.length_reverse, Array.length_toList]
    exact hz
  obtain ⟨os, ho, hc, hd⟩ := id hs
  have ty : s.TypeIs (.ref sl) "slice" := ⟨os, ho, hc⟩
  unfold getItem
  try with_reducible refine wpAny_holding ?_
  first | refine wpAny_bind (wpAny_pure ?_) | skip
  refine wpAny_bind (wpAny_sequenceKey ht.typeIs (by decide) (wpAny_bind (wpAny_callSpecial?_slot (name := Str.ofString "__getitem__") ht.typeIs PyProof.Rows.slot_tuple_getitem
    (wpAny_call_entry PyProof.Rows.slot_tuple_getitem ht.typeIs entry_tuple_getitem ?_ (args_tuple_getitem _ _)))))
  show wpAny _ _ (Builtin.Tuple.tupleItemsOf (.ref t) >>= _) _ _ s
  refine wpAny_bind (tupleItemsOf_ ht (wpAny_bind (wpAny_typeOf ty ?_)))
  rw [if_pos (by decide)]
  refine wpAny_bind (back_applied hs pc ?_)
  have no : ¬ ((((xs.size : Nat) : Int) - 1 == 0 && (-1 : Int) == 1 && xs.size == xs.size) = true) := by
    rw [show ((-1 : Int) == 1) = false from rfl, Bool.and_false, Bool.false_and]
    exact Bool.false_ne_true
  show wpAny _ _ (if ((((xs.size : Nat) : Int) - 1 == 0 && (-1 : Int) == 1 && xs.size == xs.size) = true) then _ else _) _ _ s
  rw [if_neg no, back_pick]
  first
    | exact wpAny_bind (m := Builtin.Tuple.tupleExact _) (wpAny_newObj_type (wpAny_pure ⟨_, rfl, wpAny_pure h⟩) ok)
    | exact wpAny_bind (m := Builtin.Tuple.tupleExact _) (wpAny_newObj_type (wpAny_bind (wpAny_pure (wpAny_pure ⟨_, rfl, wpAny_pure h⟩))) ok)
    | exact wpAny_bind (wpAny_bind (m := Builtin.Tuple.tupleExact _) (wpAny_newObj_type (wpAny_pure (wpAny_pure ⟨_, rfl, wpAny_pure h⟩)) ok))
    | exact wpAny_bind (wpAny_bind (m := Builtin.Tuple.tupleExact _) (wpAny_newObj_type (wpAny_pure ⟨_, rfl, wpAny_pure h⟩) ok))
end
section
variable {X : Cx}
def tRevT (te : TE) : TE := fun σ H Q => te σ H fun x G => ∃ (a : Addr) (xs : List V), x = .ref a ∧ G a = some (.tup xs) ∧ ∀ p, G p = none → Q (.ref p) (upd G p (.tup xs.reverse))
theorem Vals.rev : ∀ {xs : List V} {us : List Value}, Vals xs us → Vals xs.reverse us.reverse
  | _, _, .nil => .nil
  | _, _, .cons r t => by
    rw [List.reverse_cons, List.reverse_cons]
    exact (Vals.rev t).append (.cons r .nil)
theorem pe_revT {e : Expr} {te : TE} {k : Nat} {p1 p2 p3 pos : Pos} (he : PE X e te) : PE X (.Subscript e (.Slice none none (some (.UnaryOp .USub (.Constant (.int 1) k p1) p2)) p3) pos) (tRevT te) := by
  refine ⟨fun pins s σ H Q I h => Subscript_ (thn (he.run pins s σ H _ I h) fun v s1 ⟨x, H1, I1, r1, a, xs, ex, hx, q⟩ => ?_)⟩
  subst ex
  cases r1
  have st : PO X (some (.UnaryOp .USub (.Constant (.int 1) k p1) p2)) (tPart (tUn (rU fun i => .int (-i)) (tC (.int 1)))) := po_some (pe_un un_neg pe_int)
  refine wpAny_Slice (thn (po_none.run pins s1 σ H1 (fun o G => o = none ∧ G = H1) I1 ⟨rfl, rfl⟩) fun vl s2 ⟨o2, H2, I2, pl, el, e2⟩ => ?_)
  cases el
  cases e2
  refine thn (po_none.run pins s2 σ H1 (fun o G => o = none ∧ G = H1) I2 ⟨rfl, rfl⟩) fun vu s3 ⟨o3, H3, I3, pu, eu, e3⟩ => ?_
  cases eu
  cases e3
  refine thn (st.run pins s3 σ H1 (fun o G => o = some (-1) ∧ G = H1) I3 ⟨1, rfl, -1, rfl, rfl, rfl⟩) fun vc s4 ⟨o4, H4, I4, pc, ec, e4⟩ => ?_
  cases ec
  cases e4
  have J : Inv X pins σ H1 { s4 with heap := s4.heap.push { cls := .type "slice", data := .fields #[vl, vu, vc] } } := I4.kept (t' := s4.toks) fun b ob z => Heap.get?_push_of_some _ z
  obtain ⟨its, o, n, r, t1, t2, t3⟩ := tup_at J hx
  have hz : its.length ≤ sizeLine := by
    obtain ⟨z, _⟩ := (show ObjOk X.prog X.w H1 _ a (.tup xs) from J.hok a _ hx)
    rw [← r.length]; exact z
  have tt : IsTup { s4 with heap := s4.heap.push { cls := .type "slice", data := .fields #[vl, vu, vc] } }.heap a its.toArray := ⟨o, t1, t2, n, t3⟩
  cases pl
  cases pu
  show wpAny (model X.prog X.w) X.A (subscriptTail e (.Slice none none (some (.UnaryOp .USub (.Constant (.int 1) k p1) p2)) p3) (.ref a) (.ref s4.heap.objs.size)) (EP X pins σ Q) X.xe { s4 with heap := s4.heap.push { cls := .type "slice", data := .fields #[.none, .none, vc] } }
  refine tail_any (ops := [.ref a, .ref s4.heap.objs.size]) tt.typeIs PyProof.Rows.slot_tuple_getitem.lookup ?_ (by with_unfolding_all rfl)
  refine back_item tt (Heap.IsSliceOf.new _ .none .none vc) pc ?_ (by rw [List.size_toArray]; exact hz)
  refine ⟨.ref _, _, J.laid (t' := s4.toks) (o := .tup xs.reverse) (fun b ob z => Heap.get?_push_of_some _ z) (Nat.le_refl _) ?_, rfl, q _ (J.hok.fresh (Nat.le_refl _))⟩
  refine ⟨by rw [List.length_reverse, r.length]; exact hz, its.reverse, Vals.rev r, ⟨_, Heap.get?_push_size _ rfl, rfl, _, rfl⟩⟩
end
end GL
/-! Own layer: zip of two or three, enumerate, over lists, tuples and texts in any mix; what is walked stands still. -/
namespace GZ
open PySem PySem.Spec PyProof.Rows L2

/-- the kinds of what is walked -/
inductive Kd where
  | lst
  | tup
  | str
def sgs (z : Str) : List V := z.cps.toList.map fun c => V.str ⟨#[c]⟩
/-- v is a list, a tuple, a text of the items xs -/
def Src (K : PySem.W.Frag) (H : Hp) : Kd → V → List V → Prop
  | .lst, v, xs => ∃ a, v = .ref a ∧ SqL K H a xs
  | .tup, v, xs => ∃ a, v = .ref a ∧ SqT K H a xs
  | .str, v, xs => ∃ z, v = .str z ∧ xs = sgs z
/-- the iterator at it, ahead of the item i -/
def StI (h : Heap) : Kd → V → Addr → Nat → Prop
  | .lst, v, it, i => ∃ a, v = .ref a ∧ h.IsListIter it a i
  | .tup, v, it, i => ∃ a, v = .ref a ∧ h.IsTupleIter it a i
  | .str, v, it, i => ∃ z t, v = .str z ∧ h.IsStrIter it (strIterType z) z t i
theorem StI.keep {h h' : Heap} {k : Kd} {v : V} {it : Addr} {i : Nat} (st : StI h k v it i) (q : ∀ o, h.get? it = some o → h'.get? it = some o) : StI h' k v it i := by
  cases k with
  | lst => obtain ⟨a, e, s⟩ := st; exact ⟨a, e, s.at q⟩
  | tup => obtain ⟨a, e, s⟩ := st; exact ⟨a, e, s.at q⟩
  | str => obtain ⟨z, t, e, o, ho, r⟩ := st; exact ⟨z, t, e, o, q o ho, r⟩
theorem StI.obj {h : Heap} {k : Kd} {v : V} {it : Addr} {i : Nat} (st : StI h k v it i) : ∃ o, h.get? it = some o ∧ ∀ v, o.data ≠ .cell v := by
  cases k with
  | lst => obtain ⟨a, e, o, ho, _, d⟩ := st; exact ⟨o, ho, fun v z => by rw [d] at z; cases z⟩
  | tup => obtain ⟨a, e, o, ho, _, d⟩ := st; exact ⟨o, ho, fun v z => by rw [d] at z; cases z⟩
  | str => obtain ⟨z, t, e, o, ho, _, d⟩ := st; exact ⟨o, ho, fun v z => by rw [d] at z; cases z⟩
theorem vals_back {xs : List V} {us : List Value} (r : Vals xs us) {j : Nat} {u : Value} (h : us[j]? = some u) : ∃ y, xs[j]? = some y ∧ RelV y u := by
  have l := r.length
  have jl : j < us.length := (List.getElem?_eq_some_iff.mp h).1
  obtain ⟨y, hy⟩ : ∃ y, xs[j]? = some y := ⟨_, List.getElem?_eq_getElem (by omega)⟩
  obtain ⟨u', h1, h2⟩ := r.get hy
  rw [h] at h1
  cases h1
  exact ⟨y, hy, h2⟩
section
variable {X : Cx} {pins : List (Addr × Obj)} {σ : L2.St} {H : Hp} {s : Shared}
/-- what its iterator draws -/
theorem src_draws (I : Inv X pins σ H s) (hc : X.calm = true) {k : Kd} {v : V} {xs : List V} {it : Addr} {i : Nat} (h : Src X.K H k v xs) (st : StI s.heap k v it i) (ne : ∀ a, v = .ref a → a ≠ it) :
    ∃ (fp : List Addr) (P : Nat → Value → Prop) (St : Nat → Heap → Prop), Draws X.prog X.w X.A.in1 it fp xs.length P St ∧ St i s.heap ∧ it ∈ fp ∧ (∀ b ∈ fp, b = it ∨ v = .ref b) ∧
      (∀ j x, P j x → ∃ y, xs[j]? = some y ∧ RelV y x) ∧ ∀ j h', St j h' → StI h' k v it j := by
  have hh : X.A.in1.handled = none := I.ok.hd hc
  cases k with
  | lst =>
    obtain ⟨a, rfl, hq⟩ := h
    obtain ⟨a', e, st⟩ := st
    cases e
    obtain ⟨its, rv, p, hz⟩ := I.list hq
    have D := Draws.list (prog := X.prog) (w := X.w) (A := X.A.in1) hh it a (ne a rfl) its.toArray
    rw [show its.toArray.size = xs.length by rw [List.size_toArray, rv.length]] at D
    exact ⟨_, _, _, D, ⟨st, p.isList⟩, List.mem_cons_self, fun b hb => by simpa [eq_comm] using hb, fun j x hx => vals_back rv (by simpa using hx), fun j h' q => ⟨a, rfl, q.1⟩⟩
  | tup =>
    obtain ⟨a, rfl, hq⟩ := h
    obtain ⟨a', e, st⟩ := st
    cases e
    obtain ⟨its, rv, p, hz⟩ := I.tuple hq
    have D := Draws.tuple (prog := X.prog) (w := X.w) (A := X.A.in1) hh it a (ne a rfl) its.toArray
    rw [show its.toArray.size = xs.length by rw [List.size_toArray, rv.length]] at D
    exact ⟨_, _, _, D, ⟨st, p⟩, List.mem_cons_self, fun b hb => by simpa [eq_comm] using hb, fun j x hx => vals_back rv (by simpa using hx), fun j h' q => ⟨a, rfl, q.1⟩⟩
  | str =>
    obtain ⟨z, rfl, rfl⟩ := h
    obtain ⟨z', t, e, st⟩ := st
    cases e
    have D := Draws.text (prog := X.prog) (w := X.w) (A := X.A.in1) hh it z t
    rw [show z.cps.size = (sgs z).length by unfold sgs; rw [List.length_map, Array.length_toList]] at D
    refine ⟨_, _, _, D, st, List.mem_cons_self, fun b hb => .inl (by simpa using hb), ?_, fun j h' q => ⟨z, t, rfl, q⟩⟩
    rintro j x ⟨c, u, h1, rfl⟩
    refine ⟨.str ⟨#[c]⟩, ?_, ⟨u, rfl⟩⟩
    unfold sgs
    rw [List.getElem?_map, Array.getElem?_toList, h1]
    rfl
/-- how its iterator begins -/
theorem src_begins (I : Inv X pins σ H s) {k : Kd} {v : V} {u : Value} {xs : List V} (h : Src X.K H k v xs) (r : RelV v u) :
    ∃ (o : Obj) (Hb : Heap → Prop), Begins u o Hb ∧ Hb s.heap ∧ (∀ (it : Addr) (h' : Heap), h'.get? it = some o → StI h' k v it 0) ∧ ∀ a, v = .ref a → a < s.heap.objs.size := by
  cases k with
  | lst =>
    obtain ⟨a, rfl, hq⟩ := h
    cases r
    obtain ⟨its, rv, p, hz⟩ := I.list hq
    exact ⟨_, _, begins_list a its.toArray, p.isList, fun it h' e => ⟨a, rfl, _, e, rfl, rfl⟩, fun b e => by cases e; exact p.lt⟩
  | tup =>
    obtain ⟨a, rfl, hq⟩ := h
    cases r
    obtain ⟨its, rv, p, hz⟩ := I.tuple hq
    have la : a < s.heap.objs.size := by
      obtain ⟨o, ho, _⟩ := id p
      exact Heap.lt_size ho
    exact ⟨_, _, begins_tuple a its.toArray, p, fun it h' e => ⟨a, rfl, _, e, rfl, rfl⟩, fun b e => by cases e; exact la⟩
  | str =>
    obtain ⟨z, rfl, rfl⟩ := h
    obtain ⟨t, rfl⟩ := r
    exact ⟨_, _, begins_text z t, trivial, fun it h' e => ⟨z, t, rfl, _, e, rfl, rfl⟩, fun b e => nomatch e⟩
end

theorem out5 {n a : Nat} (h : a < n) : a ∉ [n + 4, n + 2, n + 3, n, n + 1] := by
  simp only [List.mem_cons, List.not_mem_nil, or_false]
  omega
theorem le5 {n a : Nat} (h : a ∈ [n + 4, n + 2, n + 3, n, n + 1]) : n ≤ a := by
  simp only [List.mem_cons, List.not_mem_nil, or_false] at h
  omega
theorem out6 {n a : Nat} (h : a < n) : a ∉ [n + 5, n + 3, n + 4, n, n + 1, n + 2] := by
  simp only [List.mem_cons, List.not_mem_nil, or_false]
  omega
theorem le6 {n a : Nat} (h : a ∈ [n + 5, n + 3, n + 4, n, n + 1, n + 2]) : n ≤ a := by
  simp only [List.mem_cons, List.not_mem_nil, or_false] at h
  omega
theorem out2 {n a : Nat} (h : a < n) : a ∉ [n + 1, n] := by
  simp only [List.mem_cons, List.not_mem_nil, or_false]
  omega
theorem le2 {n a : Nat} (h : a ∈ [n + 1, n]) : n ≤ a := by
  simp only [List.mem_cons, List.not_mem_nil, or_false] at h
  omega
/-- n turns while G stands; turn i gives a new tuple of what stands in row i -/
def ItN (n : Nat) (G : Hp → Prop) (row : Nat → Option (List V)) : It :=
  ⟨fun i H => G H ∧ i < n, fun i H v H' => ∃ T xs, v = .ref T ∧ H T = none ∧ H' = upd H T (.tup xs) ∧ row i = some xs, fun i H => G H ∧ i = n⟩
theorem walk_N {n : Nat} {G : Hp → Prop} {row : Nat → Option (List V)} : Walk (ItN n G row) n G (fun i H v H' => ∃ T xs, v = .ref T ∧ H T = none ∧ H' = upd H T (.tup xs) ∧ row i = some xs) :=
  ⟨fun _ _ hi q => ⟨q, hi⟩, fun _ q => ⟨q, rfl⟩, fun _ _ _ _ _ _ y => y⟩
/-- such an iterator by the library's walks of tuples -/
theorem turn_N {P : Program} {w : World} {K : PySem.W.Frag} {elts : List Expr} {kk : Nat} {tpos : Pos} {n : Nat} {G : Hp → Prop} {row : Nat → Option (List V)} {fp : List Addr} {z : Addr} {tn : Nat → Heap → Prop} (mem : z ∈ fp)
    (obj : ∀ i h, tn i h → ∀ b ∈ fp, ∃ o, h.get? b = some o ∧ ∀ v, o.data ≠ .cell v) (keep : ∀ i h h', tn i h → (∀ b ∈ fp, ∀ o, h.get? b = some o → h'.get? b = some o) → tn i h')
    (self : ∀ (A : Around) (i : Nat) (s : Shared) (Q : Value → Shared → Prop) (E : Value → Shared → Prop), tn i s.heap → Q (.ref z) s → wpAny (model P w) A (pyIter (.ref z)) Q E s)
    (W : ∀ (X : Cx), X.prog = P → X.w = w → X.K = K → X.calm = true → ∀ (i : Nat) (pins : List (Addr × Obj)) (s : Shared) (σ : L2.St) (H : Hp), Inv X pins σ H s → G H → tn i s.heap →
      ∃ (fpW wr : List Addr) (Pt : Nat → Array Value → Prop) (St : Nat → Heap → Prop) (Mid : Nat → Addr → Heap → Prop), WalksT P w X.A z fpW wr n Pt St Mid ∧ St i s.heap ∧ (∀ b ∈ wr, b ∈ fp) ∧ (∀ j h, St j h → tn j h) ∧
        ∀ j vals, Pt j vals → ∃ xs, row j = some xs ∧ Vals xs vals.toList ∧ xs.length ≤ sizeLine) : Turn P w K (.Tuple elts kk tpos) (ItN n G row) fp z tn where
  mem := mem
  obj := obj
  keep := keep
  self := self
  item := by
    intro X hP hw hK hc i pins s σ H E I hf st hg
    obtain ⟨hG, hi⟩ := hg
    obtain ⟨fpW, wr, Pt, St, Mid, Wk, st0, hwr, hst, hpt⟩ := W X hP hw hK hc i pins s σ H I hG st
    subst hP hw hK
    refine Wk.item i s _ _ hi st0 fun T vals h' tk hP hT hTup mid hk => ⟨_, rfl, Wk.go elts kk tpos i T { s with heap := h', toks := tk } _ _ mid fun h'' st'' hk'' => ?_⟩
    obtain ⟨xs, hr, hv, hl⟩ := hpt i vals hP
    have hap := Wk.apart i T h' mid
    obtain ⟨o, ho, hcl, nn, hd⟩ := hTup
    have new : ObjOk X.prog X.w (upd H T (.tup xs)) h'' T (.tup xs) := ⟨hl, vals.toList, hv, ⟨o, hk'' T o hap ho, hcl, nn, by simpa using hd⟩⟩
    have I1 : Inv X pins σ (upd H T (.tup xs)) { s with heap := h'', toks := tk } :=
      I.turnedNew (ch := fp) (fun b ob hb q => hk'' b ob (fun z => hb (hwr b z)) (hk b ob (fun z => hb (hwr b z)) q)) hf hT new
    refine ⟨.ref T, _, I1, rfl, ⟨T, xs, rfl, I.hok.fresh hT, rfl, hr⟩, hst _ _ st'', fun b hb => ?_⟩
    obtain ⟨ob, hob, _⟩ := obj i s.heap st b hb
    have hlt : b < s.heap.objs.size := Heap.lt_size hob
    rw [upd_ne (Nat.ne_of_lt (Nat.lt_of_lt_of_le hlt hT))]
    exact (hf b hb).1
  done := by
    intro X hP hw hK hc i pins s σ H E I hf st hg
    obtain ⟨hG, hi⟩ := hg
    obtain ⟨fpW, wr, Pt, St, Mid, Wk, st0, hwr, hst, hpt⟩ := W X hP hw hK hc i pins s σ H I hG st
    subst hP hw hK hi
    exact Wk.done s _ _ st0 fun h' tk hk => ⟨rfl, I.turnedL (t' := tk) (ch := fp) (fun b ob hb q => hk b ob (fun z => hb (hwr b z)) q) hf⟩

/-! ### zip of two -/
def row2 (xs ys : List V) (i : Nat) : Option (List V) := match xs[i]?, ys[i]? with
  | some x, some y => some [x, y]
  | _, _ => none
theorem row2_of {xs ys : List V} {i : Nat} {r : List V} (h : row2 xs ys i = some r) : ∃ x y, xs[i]? = some x ∧ ys[i]? = some y ∧ r = [x, y] := by
  unfold row2 at h
  split at h
  · rename_i x y h1 h2
    cases h
    exact ⟨x, y, h1, h2, rfl⟩
  · cases h
def It2 (K : PySem.W.Frag) (k1 : Kd) (v1 : V) (xs : List V) (k2 : Kd) (v2 : V) (ys : List V) : It := ItN (min xs.length ys.length) (fun H => Src K H k1 v1 xs ∧ Src K H k2 v2 ys) (row2 xs ys)
theorem turn_z2 {P : Program} {w : World} {K : PySem.W.Frag} {elts : List Expr} {kk : Nat} {tpos : Pos} {k1 k2 : Kd} {v1 v2 : V} {xs ys : List V} {z TI TO i1 i2 : Addr} (nd : [z, TI, TO, i1, i2].Nodup) (a1 : ∀ a, v1 = .ref a → a ∉ [z, TI, TO, i1, i2]) (a2 : ∀ a, v2 = .ref a → a ∉ [z, TI, TO, i1, i2]) :
    Turn P w K (.Tuple elts kk tpos) (It2 K k1 v1 xs k2 v2 ys) [z, TI, TO, i1, i2] z (fun i h => IsZip h z TI TO .none ∧ IsTupOf2 h TI (.ref i1) (.ref i2) ∧ (∃ x y, IsTupOf2 h TO x y) ∧ StI h k1 v1 i1 i ∧ StI h k2 v2 i2 i) := by
  refine turn_N (by simp) (fun i h st c hc => ?_) (fun i h h' st k => ?_) (fun A i s Q E st q => wpAny_pyIter_zip st.1 q) (fun X hP hw hK hc i pins s σ H I hG st => ?_)
  · obtain ⟨hz, hTI, ⟨x, y, hTO⟩, s1, s2⟩ := st
    have e' : c = z ∨ c = TI ∨ c = TO ∨ c = i1 ∨ c = i2 := by simpa using hc
    rcases e' with q | q | q | q | q
    · rw [q]; exact ⟨_, hz, fun v q => nomatch q⟩
    · rw [q]; exact ⟨_, hTI, fun v q => nomatch q⟩
    · rw [q]; exact ⟨_, hTO, fun v q => nomatch q⟩
    · rw [q]; exact s1.obj
    · rw [q]; exact s2.obj
  · obtain ⟨hz, hTI, ⟨x, y, hTO⟩, s1, s2⟩ := st
    exact ⟨k z (by simp) _ hz, k TI (by simp) _ hTI, ⟨x, y, k TO (by simp) _ hTO⟩, s1.keep fun o q => k i1 (by simp) o q, s2.keep fun o q => k i2 (by simp) o q⟩
  · subst hP hw hK
    obtain ⟨hz, hTI, ⟨x, y, hTO⟩, s1, s2⟩ := st
    simp only [List.nodup_cons, List.mem_cons, List.not_mem_nil, or_false, not_or, not_false_eq_true, List.nodup_nil, and_true] at nd
    simp only [List.mem_cons, List.not_mem_nil, or_false, not_or] at a1 a2
    obtain ⟨⟨n1, n2, n3, n4⟩, ⟨n5, n6, n7⟩, ⟨n8, n9⟩, n10⟩ := nd
    obtain ⟨f1, P1, S1, D1, t1, m1, g1, p1, q1⟩ := src_draws I hc hG.1 s1 (fun a e => (a1 a e).2.2.2.1)
    obtain ⟨f2, P2, S2, D2, t2, m2, g2, p2, q2⟩ := src_draws I hc hG.2 s2 (fun a e => (a2 a e).2.2.2.2)
    have out1 : ∀ b, b ≠ i1 → (b = z ∨ b = TO ∨ b = i2) → b ∉ f1 := fun b ne hb hm => by
      rcases g1 b hm with e | e
      · exact ne e
      · rcases hb with rfl | rfl | rfl
        · exact (a1 _ e).1 rfl
        · exact (a1 _ e).2.2.1 rfl
        · exact (a1 _ e).2.2.2.2 rfl
    have out2 : ∀ b, b ≠ i2 → (b = z ∨ b = TO ∨ b = i1) → b ∉ f2 := fun b ne hb hm => by
      rcases g2 b hm with e | e
      · exact ne e
      · rcases hb with rfl | rfl | rfl
        · exact (a2 _ e).1 rfl
        · exact (a2 _ e).2.2.1 rfl
        · exact (a2 _ e).2.2.2.1 rfl
    have S : ZipSep2 z TI TO i1 i2 f1 f2 := ⟨Ne.symm n1, Ne.symm n2, n5, n6, m1, out1 z n3 (.inl rfl), out1 TO n8 (.inr (.inl rfl)), n7, m2, out2 z n4 (.inl rfl), out2 TO n9 (.inr (.inl rfl)), out2 i1 n10 (.inr (.inr rfl)), out1 i2 (Ne.symm n10) (.inr (.inr rfl))⟩
    refine ⟨_, _, _, _, _, WalksT.zipD2 S D1 D2, ⟨hz, hTI, ⟨x, y, hTO⟩, t1, t2⟩, fun b hb => ?_, fun j h st => ⟨st.1, st.2.1, st.2.2.1, q1 _ _ st.2.2.2.1, q2 _ _ st.2.2.2.2⟩, ?_⟩
    · simp only [List.mem_cons, List.not_mem_nil, or_false] at hb ⊢
      rcases hb with e | e | e | e
      · exact .inl e
      · exact .inr (.inr (.inl e))
      · exact .inr (.inr (.inr (.inl e)))
      · exact .inr (.inr (.inr (.inr e)))
    · rintro j vals ⟨u1, u2, h1, h2, rfl⟩
      obtain ⟨y1, e1, r1⟩ := p1 j u1 h1
      obtain ⟨y2, e2, r2⟩ := p2 j u2 h2
      exact ⟨[y1, y2], by unfold row2; rw [e1, e2], .cons r1 (.cons r2 .nil), by show 2 ≤ 2 ^ 24; decide⟩
def iZ2 (K : PySem.W.Frag) (ta : TA) : TI := fun σ H R => ta σ H fun vs H1 => ∃ (v1 v2 : V) (k1 k2 : Kd) (xs ys : List V), vs = [v1, v2] ∧ Src K H1 k1 v1 xs ∧ Src K H1 k2 v2 ys ∧ R (It2 K k1 v1 xs k2 v2 ys) H1
theorem fresh_fp {X : Cx} {pins : List (Addr × Obj)} {σ : L2.St} {H : Hp} {s : Shared} (I : Inv X pins σ H s) {b : Addr} (h : s.heap.objs.size ≤ b) : FpOk X pins H b := I.fpOk h (I.hok.fresh h)
theorem pi_z2 {X : Cx} {e e2 : Expr} {ta : TA} {p pos tpos : Pos} {elts : List Expr} {kk : Nat} (hg : Gl X "zip") (hm : X.mg "zip" = none) (ha : PA X [e, e2] ta)
    (hs : starEach [e, e2] X.env = (false, eval e X.env) :: starEach [e2] X.env := by rfl) (hpl : (backTo pos (starEach [e2] X.env)).any (·.1) = false := by rfl) :
    PI X (.Tuple elts kk tpos) (.Call (.Name "zip" p) [e, e2] [] pos) (iZ2 X.K ta) := by
  refine ⟨fun pins s σ H R I h => ?_⟩
  refine Call_ (ld_blt I hg hm PyProof.Rows.boot_zip (PyProof.Rows.callWith_type1 (thn (ha.run pos pins s σ H _ I h) fun us s1 ⟨vs, H1, I1, r1, q1⟩ => ?_) hs hpl))
  obtain ⟨v1, v2, k1, k2, xs, ys, ex, hx, hy, q⟩ := q1
  subst ex
  cases r1 with
  | cons r rr =>
    cases rr with
    | cons r' rr =>
      cases rr
      obtain ⟨o1, B1, b1, c1, d1, l1⟩ := src_begins I1 hx r
      obtain ⟨o2, B2, b2, c2, d2, l2⟩ := src_begins I1 hy r'
      refine zip_begins2 b1 b2 c1 c2 fun h' hz hTI hTO g1 g2 hsz hk => wpAny_pyIter_zip hz ?_
      have I2 : Inv X pins σ H1 { s1 with heap := h' } := I1.kept (t' := s1.toks) hk
      have nd : [s1.heap.objs.size + 4, s1.heap.objs.size + 2, s1.heap.objs.size + 3, s1.heap.objs.size, s1.heap.objs.size + 1].Nodup := by simp
      refine ⟨s1.heap.objs.size + 4, [s1.heap.objs.size + 4, s1.heap.objs.size + 2, s1.heap.objs.size + 3, s1.heap.objs.size, s1.heap.objs.size + 1], _, _, H1, rfl, I2, turn_z2 nd (fun a e => out5 (l1 a e)) (fun a e => out5 (l2 a e)), ⟨hz, hTI, ⟨_, _, hTO⟩, d1 _ _ g1, d2 _ _ g2⟩, fun c hcm => fresh_fp I1 (le5 hcm), q⟩

/-! ### zip of three -/
def row3 (xs ys zs : List V) (i : Nat) : Option (List V) := match xs[i]?, ys[i]?, zs[i]? with
  | some x, some y, some z => some [x, y, z]
  | _, _, _ => none
theorem row3_of {xs ys zs : List V} {i : Nat} {r : List V} (h : row3 xs ys zs i = some r) : ∃ x y z, xs[i]? = some x ∧ ys[i]? = some y ∧ zs[i]? = some z ∧ r = [x, y, z] := by
  unfold row3 at h
  split at h
  · rename_i x y z h1 h2 h3
    cases h
    exact ⟨x, y, z, h1, h2, h3, rfl⟩
  · cases h
def It3 (K : PySem.W.Frag) (k1 : Kd) (v1 : V) (xs : List V) (k2 : Kd) (v2 : V) (ys : List V) (k3 : Kd) (v3 : V) (zs : List V) : It :=
  ItN (min (min xs.length ys.length) zs.length) (fun H => Src K H k1 v1 xs ∧ Src K H k2 v2 ys ∧ Src K H k3 v3 zs) (row3 xs ys zs)
theorem turn_z3 {P : Program} {w : World} {K : PySem.W.Frag} {elts : List Expr} {kk : Nat} {tpos : Pos} {k1 k2 k3 : Kd} {v1 v2 v3 : V} {xs ys zs : List V} {z TI TO i1 i2 i3 : Addr} (nd : [z, TI, TO, i1, i2, i3].Nodup) (a1 : ∀ a, v1 = .ref a → a ∉ [z, TI, TO, i1, i2, i3])
    (a2 : ∀ a, v2 = .ref a → a ∉ [z, TI, TO, i1, i2, i3]) (a3 : ∀ a, v3 = .ref a → a ∉ [z, TI, TO, i1, i2, i3]) :
    Turn P w K (.Tuple elts kk tpos) (It3 K k1 v1 xs k2 v2 ys k3 v3 zs) [z, TI, TO, i1, i2, i3] z (fun i h => IsZip h z TI TO .none ∧ IsTupOf3 h TI (.ref i1) (.ref i2) (.ref i3) ∧ (∃ x y u, IsTupOf3 h TO x y u) ∧ StI h k1 v1 i1 i ∧ StI h k2 v2 i2 i ∧ StI h k3 v3 i3 i) := by
  refine turn_N (by simp) (fun i h st c hc => ?_) (fun i h h' st k => ?_) (fun A i s Q E st q => wpAny_pyIter_zip st.1 q) (fun X hP hw hK hc i pins s σ H I hG st => ?_)
  · obtain ⟨hz, hTI, ⟨x, y, u, hTO⟩, s1, s2, s3⟩ := st
    have e' : c = z ∨ c = TI ∨ c = TO ∨ c = i1 ∨ c = i2 ∨ c = i3 := by simpa using hc
    rcases e' with q | q | q | q | q | q
    · rw [q]; exact ⟨_, hz, fun v q => nomatch q⟩
    · rw [q]; exact ⟨_, hTI, fun v q => nomatch q⟩
    · rw [q]; exact ⟨_, hTO, fun v q => nomatch q⟩
    · rw [q]; exact s1.obj
    · rw [q]; exact s2.obj
    · rw [q]; exact s3.obj
  · obtain ⟨hz, hTI, ⟨x, y, u, hTO⟩, s1, s2, s3⟩ := st
    exact ⟨k z (by simp) _ hz, k TI (by simp) _ hTI, ⟨x, y, u, k TO (by simp) _ hTO⟩, s1.keep fun o q => k i1 (by simp) o q, s2.keep fun o q => k i2 (by simp) o q, s3.keep fun o q => k i3 (by simp) o q⟩
  · subst hP hw hK
    obtain ⟨hz, hTI, ⟨x, y, u, hTO⟩, s1, s2, s3⟩ := st
    simp only [List.nodup_cons, List.mem_cons, List.not_mem_nil, or_false, not_or, not_false_eq_true, List.nodup_nil, and_true] at nd
    simp only [List.mem_cons, List.not_mem_nil, or_false, not_or] at a1 a2 a3
    obtain ⟨⟨n1, n2, n3, n4, n5⟩, ⟨n6, n7, n8, n9⟩, ⟨n10, n11, n12⟩, ⟨n13, n14⟩, n15⟩ := nd
    obtain ⟨f1, P1, S1, D1, t1, m1, g1, p1, q1⟩ := src_draws I hc hG.1 s1 (fun a e => (a1 a e).2.2.2.1)
    obtain ⟨f2, P2, S2, D2, t2, m2, g2, p2, q2⟩ := src_draws I hc hG.2.1 s2 (fun a e => (a2 a e).2.2.2.2.1)
    obtain ⟨f3, P3, S3, D3, t3, m3, g3, p3, q3⟩ := src_draws I hc hG.2.2 s3 (fun a e => (a3 a e).2.2.2.2.2)
    have out : ∀ (j b : Addr) (f : List Addr) (v : V), (∀ b ∈ f, b = j ∨ v = .ref b) → (∀ a, v = .ref a → ¬ a = z ∧ ¬ a = TI ∧ ¬ a = TO ∧ ¬ a = i1 ∧ ¬ a = i2 ∧ ¬ a = i3) → b ≠ j → (b = z ∨ b = TO ∨ b = i1 ∨ b = i2 ∨ b = i3) → b ∉ f := fun j b f v g a ne hb hm => by
      rcases g b hm with e | e
      · exact ne e
      · obtain ⟨e1, e2, e3, e4, e5, e6⟩ := a b e
        rcases hb with h | h | h | h | h
        · exact e1 h
        · exact e3 h
        · exact e4 h
        · exact e5 h
        · exact e6 h
    have S : ZipSep3 z TI TO i1 i2 i3 f1 f2 f3 := ⟨Ne.symm n1, Ne.symm n2, n6, n7, m1, out i1 z f1 v1 g1 a1 n3 (by simp), out i1 TO f1 v1 g1 a1 n10 (by simp), n8, m2, out i2 z f2 v2 g2 a2 n4 (by simp), out i2 TO f2 v2 g2 a2 n11 (by simp), n9, m3, out i3 z f3 v3 g3 a3 n5 (by simp), out i3 TO f3 v3 g3 a3 n12 (by simp),
      out i2 i1 f2 v2 g2 a2 n13 (by simp), out i3 i1 f3 v3 g3 a3 n14 (by simp), out i1 i2 f1 v1 g1 a1 (Ne.symm n13) (by simp), out i3 i2 f3 v3 g3 a3 n15 (by simp), out i1 i3 f1 v1 g1 a1 (Ne.symm n14) (by simp), out i2 i3 f2 v2 g2 a2 (Ne.symm n15) (by simp)⟩
    refine ⟨_, _, _, _, _, WalksT.zipD3 S D1 D2 D3, ⟨hz, hTI, ⟨x, y, u, hTO⟩, t1, t2, t3⟩, fun b hb => ?_, fun j h st => ⟨st.1, st.2.1, st.2.2.1, q1 _ _ st.2.2.2.1, q2 _ _ st.2.2.2.2.1, q3 _ _ st.2.2.2.2.2⟩, ?_⟩
    · simp only [List.mem_cons, List.not_mem_nil, or_false] at hb ⊢
      rcases hb with e | e | e | e | e
      · exact .inl e
      · exact .inr (.inr (.inl e))
      · exact .inr (.inr (.inr (.inl e)))
      · exact .inr (.inr (.inr (.inr (.inl e))))
      · exact .inr (.inr (.inr (.inr (.inr e))))
    · rintro j vals ⟨u1, u2, u3, h1, h2, h3, rfl⟩
      obtain ⟨y1, e1, r1⟩ := p1 j u1 h1
      obtain ⟨y2, e2, r2⟩ := p2 j u2 h2
      obtain ⟨y3, e3, r3⟩ := p3 j u3 h3
      exact ⟨[y1, y2, y3], by unfold row3; rw [e1, e2, e3], .cons r1 (.cons r2 (.cons r3 .nil)), by show 3 ≤ 2 ^ 24; decide⟩
def iZ3 (K : PySem.W.Frag) (ta : TA) : TI := fun σ H R => ta σ H fun vs H1 => ∃ (v1 v2 v3 : V) (k1 k2 k3 : Kd) (xs ys zs : List V), vs = [v1, v2, v3] ∧ Src K H1 k1 v1 xs ∧ Src K H1 k2 v2 ys ∧ Src K H1 k3 v3 zs ∧ R (It3 K k1 v1 xs k2 v2 ys k3 v3 zs) H1
theorem pi_z3 {X : Cx} {e e2 e3 : Expr} {ta : TA} {p pos tpos : Pos} {elts : List Expr} {kk : Nat} (hg : Gl X "zip") (hm : X.mg "zip" = none) (ha : PA X [e, e2, e3] ta)
    (hs : starEach [e, e2, e3] X.env = (false, eval e X.env) :: starEach [e2, e3] X.env := by rfl) (hpl : (backTo pos (starEach [e2, e3] X.env)).any (·.1) = false := by rfl) :
    PI X (.Tuple elts kk tpos) (.Call (.Name "zip" p) [e, e2, e3] [] pos) (iZ3 X.K ta) := by
  refine ⟨fun pins s σ H R I h => ?_⟩
  refine Call_ (ld_blt I hg hm PyProof.Rows.boot_zip (PyProof.Rows.callWith_type1 (thn (ha.run pos pins s σ H _ I h) fun us s1 ⟨vs, H1, I1, r1, q1⟩ => ?_) hs hpl))
  obtain ⟨v1, v2, v3, k1, k2, k3, xs, ys, zs, ex, hx, hy, hz0, q⟩ := q1
  subst ex
  cases r1 with
  | cons r rr =>
    cases rr with
    | cons r' rr =>
      cases rr with
      | cons r'' rr =>
        cases rr
        obtain ⟨o1, B1, b1, c1, d1, l1⟩ := src_begins I1 hx r
        obtain ⟨o2, B2, b2, c2, d2, l2⟩ := src_begins I1 hy r'
        obtain ⟨o3, B3, b3, c3, d3, l3⟩ := src_begins I1 hz0 r''
        refine zip_begins3 b1 b2 b3 c1 c2 c3 fun h' hz hTI hTO g1 g2 g3 hsz hk => wpAny_pyIter_zip hz ?_
        have I2 : Inv X pins σ H1 { s1 with heap := h' } := I1.kept (t' := s1.toks) hk
        have nd : [s1.heap.objs.size + 5, s1.heap.objs.size + 3, s1.heap.objs.size + 4, s1.heap.objs.size, s1.heap.objs.size + 1, s1.heap.objs.size + 2].Nodup := by simp
        refine ⟨s1.heap.objs.size + 5, [s1.heap.objs.size + 5, s1.heap.objs.size + 3, s1.heap.objs.size + 4, s1.heap.objs.size, s1.heap.objs.size + 1, s1.heap.objs.size + 2], _, _, H1, rfl, I2, turn_z3 nd (fun a e => out6 (l1 a e)) (fun a e => out6 (l2 a e)) (fun a e => out6 (l3 a e)),
          ⟨hz, hTI, ⟨_, _, _, hTO⟩, d1 _ _ g1, d2 _ _ g2, d3 _ _ g3⟩, fun c hcm => fresh_fp I1 (le6 hcm), q⟩

/-! ### enumerate -/
def rowE (xs : List V) (i : Nat) : Option (List V) := xs[i]?.map fun x => [V.int (i : Nat), x]
theorem rowE_of {xs : List V} {i : Nat} {r : List V} (h : rowE xs i = some r) : ∃ x, xs[i]? = some x ∧ r = [V.int (i : Nat), x] := by
  unfold rowE at h
  cases e : xs[i]? with
  | none => rw [e] at h; cases h
  | some x => rw [e] at h; cases h; exact ⟨x, rfl, rfl⟩
def ItE (K : PySem.W.Frag) (k1 : Kd) (v1 : V) (xs : List V) : It := ItN xs.length (fun H => Src K H k1 v1 xs) (rowE xs)
theorem turn_e {P : Program} {w : World} {K : PySem.W.Frag} {elts : List Expr} {kk : Nat} {tpos : Pos} {k1 : Kd} {v1 : V} {xs : List V} {e it : Addr} (nd : e ≠ it) (a1 : ∀ a, v1 = .ref a → a ∉ [e, it]) :
    Turn P w K (.Tuple elts kk tpos) (ItE K k1 v1 xs) [e, it] e (fun i h => (∃ old, IsEnum h e it (0 + ((i : Nat) : Int)) old) ∧ StI h k1 v1 it i) := by
  refine turn_N (by simp) (fun i h st c hc => ?_) (fun i h h' st k => ?_) (fun A i s Q E st q => let ⟨⟨_, he⟩, _⟩ := st; wpAny_pyIter_enum he q) (fun X hP hw hK hc i pins s σ H I hG st => ?_)
  · obtain ⟨⟨old, he⟩, s1⟩ := st
    have e' : c = e ∨ c = it := by simpa using hc
    rcases e' with q | q
    · rw [q]; exact ⟨_, he, fun v q => nomatch q⟩
    · rw [q]; exact s1.obj
  · obtain ⟨⟨old, he⟩, s1⟩ := st
    exact ⟨⟨old, k e (by simp) _ he⟩, s1.keep fun o q => k it (by simp) o q⟩
  · subst hP hw hK
    obtain ⟨⟨old, he⟩, s1⟩ := st
    simp only [List.mem_cons, List.not_mem_nil, or_false, not_or] at a1
    obtain ⟨f1, P1, S1, D1, t1, m1, g1, p1, q1⟩ := src_draws I hc hG s1 (fun a e => (a1 a e).2)
    have hef : e ∉ f1 := fun hm => by
      rcases g1 e hm with z | z
      · exact nd z
      · exact (a1 _ z).1 rfl
    refine ⟨_, _, _, _, _, WalksT.enumFrom 0 D1 e nd hef m1, ⟨⟨old, he⟩, t1⟩, fun b hb => hb, fun j h st => ⟨st.1, q1 _ _ st.2⟩, ?_⟩
    rintro j vals ⟨t, u1, h1, rfl⟩
    obtain ⟨y1, e1, r1⟩ := p1 j u1 h1
    refine ⟨[.int (j : Nat), y1], by unfold rowE; rw [e1]; rfl, .cons ⟨t, ?_⟩ (.cons r1 .nil), by show 2 ≤ 2 ^ 24; decide⟩
    show Value.int (0 + (j : Int)) t = Value.int (j : Int) t
    rw [Int.zero_add]
set_option maxHeartbeats 4000000 in
theorem meets_enumerate_newB1 {v : Value} {o : Obj} {H : Heap → Prop} (B : Begins v o H) :
    Meets (Builtin.«enumerate.__new__» ⟨[.type "enumerate", v], []⟩) (fun _ R s => H s.heap ∧
      R (.ok (.ret (.ref (s.heap.push o).objs.size))) { s with heap := (s.heap.push o).push { cls := .type "enumerate", data := .fields #[.none, .bool false, .ref s.heap.objs.size, rawInt 0, .none, .none] } }) :=
  .of_wp fun prog w A R s h => by
    obtain ⟨hp, g, d, tk, os⟩ := s; obtain ⟨h1, h⟩ := h
    have hsub := sub_enumerate
    have q1 : ∀ {A' : Around} {E : Value → Shared → Prop} {Q : Value → Shared → Prop}, Q (.ref hp.objs.size) ⟨hp.push o, g, d, tk, os⟩ → wpAny (model prog w) A' (pyIter v) Q E ⟨hp, g, d, tk, os⟩ :=
      fun q => B.iter prog w _ _ ⟨hp, g, d, tk, os⟩ _ h1 q
    wp_walk using q1
    refine wpAny_stack_any fun st => wpAny_pure ?_
    split
    · rename_i c _ _ _ _ _
      cases (c == Value.type "enumerate")
      · wp_walk using q1
        exact ⟨_, rfl, h⟩
      · wp_walk using q1
        exact ⟨_, rfl, h⟩
    · wp_walk using q1
      exact ⟨_, rfl, h⟩
theorem enum_begins1 {prog : Program} {w : World} {A : Around} {E : Value → Shared → Prop} {s : Shared} {v : Value} {o : Obj} {H : Heap → Prop} {Q : Value → Shared → Prop} (B : Begins v o H) (h1 : H s.heap)
    (h : ∀ h', IsEnum h' (s.heap.objs.size + 1) s.heap.objs.size 0 .none → h'.get? s.heap.objs.size = some o → h'.objs.size = s.heap.objs.size + 2 →
      (∀ b o, s.heap.get? b = some o → h'.get? b = some o) → Q (.ref (s.heap.objs.size + 1)) { s with heap := h' }) :
    wpAny (model prog w) A (call (.type "enumerate") [v]) Q E s := by
  refine callType_new F.called_enumerate (by decide) (F.typeCall_enumerate_1 _) (F.newCall_enumerate_1 _) (fun obj => F.args_object_init_2 obj _) F.entry_enumerate_new
    (meets_enumerate_newB1 B) ⟨h1, ?_⟩
  have hz : (s.heap.push o).objs.size = s.heap.objs.size + 1 := Heap.size_push ..
  show _ ∧ _
  rw [hz]
  have he : IsEnum ((s.heap.push o).push { cls := .type "enumerate", data := .fields #[.none, .bool false, .ref s.heap.objs.size, rawInt 0, .none, .none] }) (s.heap.objs.size + 1) s.heap.objs.size 0 .none := by
    have := Heap.get?_push_size (s.heap.push o) (o := { cls := .type "enumerate", data := .fields #[.none, .bool false, .ref s.heap.objs.size, rawInt 0, .none, .none] }) rfl
    rw [hz] at this; exact this
  refine ⟨⟨_, he, rfl⟩, h _ he (Heap.get?_push_of_some _ (Heap.get?_push_size _ B.free)) (by rw [Heap.size_push, hz]) fun b o x => Heap.get?_push_of_some _ (Heap.get?_push_of_some _ x)⟩
def iE (K : PySem.W.Frag) (ta : TA) : TI := fun σ H R => ta σ H fun vs H1 => ∃ (v1 : V) (k1 : Kd) (xs : List V), vs = [v1] ∧ Src K H1 k1 v1 xs ∧ R (ItE K k1 v1 xs) H1
theorem pi_e {X : Cx} {e : Expr} {ta : TA} {p pos tpos : Pos} {elts : List Expr} {kk : Nat} (hg : Gl X "enumerate") (hm : X.mg "enumerate" = none) (ha : PA X [e] ta) (hs : starEach [e] X.env = [(false, eval e X.env)] := by rfl) :
    PI X (.Tuple elts kk tpos) (.Call (.Name "enumerate" p) [e] [] pos) (iE X.K ta) := by
  refine ⟨fun pins s σ H R I h => ?_⟩
  refine Call_ (ld_blt I hg hm boot_enumerate (PyProof.Rows.callWith_type1 (thn (ha.run pos pins s σ H _ I h) fun us s1 ⟨vs, H1, I1, r1, q1⟩ => ?_) hs rfl))
  obtain ⟨v1, k1, xs, ex, hx, q⟩ := q1
  subst ex
  cases r1 with
  | cons r rr =>
    cases rr
    obtain ⟨o1, B1, b1, c1, d1, l1⟩ := src_begins I1 hx r
    refine enum_begins1 b1 c1 fun h' he g1 hsz hk => wpAny_pyIter_enum he ?_
    have I2 : Inv X pins σ H1 { s1 with heap := h' } := I1.kept (t' := s1.toks) hk
    refine ⟨s1.heap.objs.size + 1, [s1.heap.objs.size + 1, s1.heap.objs.size], _, _, H1, rfl, I2, turn_e (Nat.succ_ne_self _) (fun a e => out2 (l1 a e)), ⟨⟨.none, by rw [show (0 : Int) + ((0 : Nat) : Int) = 0 from rfl]; exact he⟩, d1 _ _ g1⟩, fun c hcm => fresh_fp I1 (le2 hcm), q⟩
end GZ
/-! Words and signs as texts; a text times a number, a tuple once. No row. -/
namespace KW
open PySem PySem.Spec PyProof.Rows L2 GL KC GZ
def sg (j : Nat) : Str := ⟨#[97 + j]⟩
def wS (w : List Nat) : Str := ⟨(w.map (97 + ·)).toArray⟩
theorem wS_nil : wS [] = ("" : Str) := by decide +kernel
theorem wS_len (w : List Nat) : (wS w).length = w.length := by
  show ((w.map (97 + ·)).toArray).size = _
  simp
theorem wS_size (w : List Nat) : (wS w).cps.size = w.length := wS_len w
theorem wS_list (w : List Nat) : (wS w).cps.toList = w.map (97 + ·) := rfl
theorem wS_at {w : List Nat} {i c : Nat} (h : (wS w).cps[i]? = some c) : ∃ j, w[i]? = some j ∧ c = 97 + j := by
  have h' : (w.map (97 + ·))[i]? = some c := by simpa [wS] using h
  rw [List.getElem?_map] at h'
  cases e : w[i]? with
  | none => rw [e] at h'; cases h'
  | some j => rw [e] at h'; exact ⟨j, rfl, (Option.some.inj h').symm⟩
theorem wS_app (w u : List Nat) : wS w ++ wS u = wS (w ++ u) := by
  have e : ∀ a b : Str, a ++ b = ⟨a.cps ++ b.cps⟩ := fun _ _ => rfl
  rw [e]
  simp [wS]
theorem sg_wS (j : Nat) : sg j = wS [j] := rfl
theorem occ_at : ∀ j, j < 4 → Builtin.Str.occurrences ("abcd" : Str) (sg j) 0 ("abcd" : Str).length 1 = [j] := by
  intro j hj
  rcases j with _ | _ | _ | _ | j
  · decide +kernel
  · decide +kernel
  · decide +kernel
  · decide +kernel
  · omega
theorem cut_abcd : ∀ l : Nat, 1 ≤ l → l ≤ 4 → cutS ("abcd" : Str) none (some (l : Int)) = wS (List.range l) := by
  intro l h1 h4
  rcases l with _ | _ | _ | _ | _ | l
  · omega
  · decide +kernel
  · decide +kernel
  · decide +kernel
  · decide +kernel
  · omega
/-- texts of one sign each, joined -/
theorem join_c : ∀ cs : List Nat, Txt.join ("" : Str) (cs.map fun c => (⟨#[c]⟩ : Str)) = ⟨cs.toArray⟩ := by
  intro w
  rw [TL.join_eq]
  have e0 : ∀ a : Str, a ++ ("" : Str) = a := by
    intro a
    show (⟨a.cps ++ #[]⟩ : Str) = a
    simp
  induction w with
  | nil => rfl
  | cons j w ih =>
    cases w with
    | nil => rfl
    | cons k w =>
      show (⟨#[j]⟩ : Str) ++ ("" : Str) ++ Str.join ("" : Str) ((k :: w).map fun c => (⟨#[c]⟩ : Str)) = _
      rw [ih, e0]
      show (⟨#[j] ++ (k :: w).toArray⟩ : Str) = _
      simp
theorem len_c : ∀ us : List Nat, ((us.map fun c => (⟨#[c]⟩ : Str)).map (·.length)).sum = us.length := by
  intro us
  induction us with
  | nil => rfl
  | cons y ys ih =>
    rw [List.map_cons, List.map_cons, List.sum_cons, ih, List.length_cons]
    show 1 + ys.length = ys.length + 1
    omega
/-- signs: true is minus -/
def sc (b : Bool) : Nat := if b then 45 else 43
def sS (bs : List Bool) : Str := ⟨(bs.map sc).toArray⟩
theorem sS_len (bs : List Bool) : (sS bs).length = bs.length := by
  show ((bs.map sc).toArray).size = _
  simp
theorem sgs_sS (bs : List Bool) : sgs (sS bs) = bs.map fun b => V.str ⟨#[sc b]⟩ := by
  unfold sgs sS
  simp
theorem sgs_abcd : sgs ("abcd" : Str) = [V.str (sg 0), V.str (sg 1), V.str (sg 2), V.str (sg 3)] := by rfl
theorem sgs_abcd_at {i : Nat} {x : V} (h : (sgs ("abcd" : Str))[i]? = some x) : x = .str (sg i) ∧ i < 4 := by
  rw [sgs_abcd] at h
  rcases i with _ | _ | _ | _ | i
  · cases h; exact ⟨rfl, by decide⟩
  · cases h; exact ⟨rfl, by decide⟩
  · cases h; exact ⟨rfl, by decide⟩
  · cases h; exact ⟨rfl, by decide⟩
  · cases h
theorem sc_minus (b : Bool) : decide (V.str ⟨#[sc b]⟩ = V.str ("-" : Str)) = b := by cases b <;> decide +kernel
theorem count_wS (w : List Nat) (j : Nat) : Txt.count (wS w) (sg j) = ((w.count j : Nat) : Int) := by
  unfold sg
  rw [count_cnt, wS_list]
  induction w with
  | nil => rfl
  | cons a w ih =>
    rw [List.map_cons, cnt_cons, ih, List.count_cons]
    by_cases h : a = j
    · subst h
      simp
      omega
    · have h2 : ¬ 97 + a = 97 + j := by omega
      rw [if_neg h2]
      simp [h]
/-! ### one of the signs of a text -/
def spOneT : Sp := fun vs H Q _ => ∃ (d c : Addr) (z : Str) (m : Nat), vs = [.ref d, .str z] ∧ Deck H d c m ∧ m ≤ 1000000000 ∧ 0 < z.length ∧ z.length ≤ 1000 ∧
  ∀ (k : Nat) (G : Hp), k ∈ z.cps.toList → Deck G d c (m + 1) → Same (Hd d c H) (Hd d c G) → Q (.str ⟨#[k]⟩) G
def spWord : Sp := fun vs H Q _ => ∃ (d c : Addr) (l most m : Nat), vs = [.ref d, .int l, .int most] ∧ Deck H d c m ∧ m ≤ 900000000 ∧ 1 ≤ l ∧ l ≤ 4 ∧ most ≤ 1000 ∧
  ∀ (w : List Nat) (G : Hp), (∀ j ∈ w, j < l) → w.length ≤ most → Deck G d c (m + 1002) → Same (Hd d c H) (Hd d c G) → Q (.str (wS w)) G
def spSigns : Sp := fun vs H Q _ => ∃ (d c : Addr) (l m : Nat), vs = [.ref d, .int l] ∧ Deck H d c m ∧ m ≤ 900000000 ∧ l ≤ 4 ∧
  ∀ (bs : List Bool) (G : Hp), bs.length = l → Deck G d c (m + 4) → Same (Hd d c H) (Hd d c G) → Q (.str (sS bs)) G
theorem bs_of : ∀ cs : List Nat, (∀ c ∈ cs, c = 43 ∨ c = 45) → ∃ bs : List Bool, cs = bs.map sc
  | [], _ => ⟨[], rfl⟩
  | c :: cs, h => by
    obtain ⟨bs, e⟩ := bs_of cs fun x hx => h x (List.mem_cons_of_mem _ hx)
    rcases h c List.mem_cons_self with rfl | rfl
    · exact ⟨false :: bs, by rw [e]; rfl⟩
    · exact ⟨true :: bs, by rw [e]; rfl⟩
theorem ws_of : ∀ (l : Nat) (cs : List Nat), (∀ c ∈ cs, c ∈ (wS (List.range l)).cps.toList) → ∃ w : List Nat, cs = w.map (97 + ·) ∧ ∀ j ∈ w, j < l
  | _, [], _ => ⟨[], rfl, fun _ h => nomatch h⟩
  | l, c :: cs, h => by
    obtain ⟨w, e, hw⟩ := ws_of l cs fun x hx => h x (List.mem_cons_of_mem _ hx)
    have hc := h c List.mem_cons_self
    rw [wS_list] at hc
    obtain ⟨j, hj, ej⟩ := List.mem_map.mp hc
    refine ⟨j :: w, by rw [e, ← ej]; rfl, fun k hk => ?_⟩
    rcases List.mem_cons.mp hk with rfl | hk
    · exact List.mem_range.mp hj
    · exact hw k hk
/-! ### the sign and the weight of a word -/
def sgn (bs : List Bool) : List Nat → Int
  | [] => 1
  | j :: w => (if bs.getD j false then -1 else 1) * sgn bs w
theorem sgn_app (bs : List Bool) : ∀ u v : List Nat, sgn bs (u ++ v) = sgn bs u * sgn bs v
  | [], v => by show sgn bs v = 1 * sgn bs v; omega
  | j :: u, v => by
    show _ * sgn bs (u ++ v) = _ * sgn bs u * sgn bs v
    rw [sgn_app bs u v, Int.mul_assoc]
theorem sgn_one (bs : List Bool) (j : Nat) : sgn bs [j] = if bs.getD j false then -1 else 1 := Int.mul_one _
theorem sgn_odd (bs : List Bool) : ∀ w : List Nat, sgn bs w = if (w.countP fun j => bs.getD j false) % 2 = 1 then -1 else 1
  | [] => rfl
  | j :: w => by
    show _ * sgn bs w = _
    rw [sgn_odd bs w, List.countP_cons]
    cases bs.getD j false with
    | false => simp
    | true =>
      simp only [if_true]
      split <;> split <;> omega
theorem sgn_pm (bs : List Bool) (w : List Nat) : sgn bs w = 1 ∨ sgn bs w = -1 := by
  rw [sgn_odd]
  split
  · exact .inr rfl
  · exact .inl rfl
theorem sgn_plus (l : Nat) : ∀ w : List Nat, sgn (List.replicate l false) w = 1
  | [] => rfl
  | j :: w => by
    show _ * sgn _ w = _
    rw [sgn_plus l w]
    have e : (List.replicate l false).getD j false = false := by
      rw [List.getD_eq_getElem?_getD]
      cases h : (List.replicate l false)[j]? with
      | none => rfl
      | some b => exact List.eq_of_mem_replicate (List.mem_of_getElem? h)
    rw [e]
    rfl
theorem sum_counts (w : List Nat) : ∀ L : List Nat, L.Nodup → (L.map fun j => ((w.count j : Nat) : Int)).sum = ((w.countP fun j => decide (j ∈ L) : Nat) : Int)
  | [], _ => by simp
  | a :: L, nd => by
    have nd' := List.nodup_cons.mp nd
    rw [List.map_cons, List.sum_cons, sum_counts w L nd'.2]
    have : ∀ w : List Nat, (w.countP fun j => decide (j ∈ a :: L)) = w.count a + w.countP fun j => decide (j ∈ L) := by
      intro w
      induction w with
      | nil => rfl
      | cons x w ih =>
        rw [List.countP_cons, List.count_cons, List.countP_cons, ih]
        by_cases h : x = a
        · subst h
          simp [nd'.1]
          omega
        · simp [h]
          omega
    rw [this w]
    omega
def minus (bs : List Bool) (l : Nat) : List Nat := (List.range l).filter fun j => bs.getD j false
theorem minus_sum (bs : List Bool) (l : Nat) (w : List Nat) (h : ∀ j ∈ w, j < l) : ((minus bs l).map fun j => ((w.count j : Nat) : Int)).sum = ((w.countP fun j => bs.getD j false : Nat) : Int) := by
  rw [sum_counts w (minus bs l) (List.nodup_range.filter _)]
  congr 1
  apply List.countP_congr
  intro j hj
  simp [minus, h j hj]
def wsum (ws : List Int) (w : List Nat) : Int := ((List.range ws.length).map fun j => ((w.count j : Nat) : Int) * ws.getD j 0).sum
theorem sum_add {α : Type} (f g : α → Int) : ∀ L : List α, (L.map fun j => f j + g j).sum = (L.map f).sum + (L.map g).sum
  | [] => rfl
  | a :: L => by
    rw [List.map_cons, List.sum_cons, sum_add f g L, List.map_cons, List.sum_cons, List.map_cons, List.sum_cons]
    omega
theorem wsum_app (ws : List Int) (u v : List Nat) : wsum ws (u ++ v) = wsum ws u + wsum ws v := by
  unfold wsum
  rw [← sum_add]
  congr 1
  refine List.map_congr_left fun j _ => ?_
  rw [List.count_append, ← Int.add_mul]
  congr 1
theorem sum_bound (f : Nat → Int) (b : Nat) (h : ∀ j, (f j).natAbs ≤ b) : ∀ L : List Nat, ((L.map f).sum).natAbs ≤ L.length * b
  | [] => by simp
  | a :: L => by
    rw [List.map_cons, List.sum_cons, List.length_cons, Nat.add_mul]
    have := sum_bound f b h L
    have := h a
    omega
theorem wsum_le (ws : List Int) (w : List Nat) (hl : ws.length ≤ 4) (hw : w.length ≤ 1000) (h : ∀ x ∈ ws, x.natAbs ≤ 99) : (wsum ws w).natAbs ≤ 400000 := by
  have := sum_bound (fun j => ((w.count j : Nat) : Int) * ws.getD j 0) 99000 (fun j => ?_) (List.range ws.length)
  · rw [List.length_range] at this
    unfold wsum
    omega
  · have c := List.count_le_length (a := j) (l := w)
    have g : (ws.getD j 0).natAbs ≤ 99 := by
      rw [List.getD_eq_getElem?_getD]
      cases e : ws[j]? with
      | none => exact Nat.zero_le _
      | some x => exact h x (List.mem_of_getElem? e)
    show (((w.count j : Nat) : Int) * ws.getD j 0).natAbs ≤ 99000
    rw [Int.natAbs_mul, Int.natAbs_natCast]
    exact Nat.le_trans (Nat.mul_le_mul (Nat.le_trans c hw) g) (by decide)
theorem wsum_nought (l : Nat) (w : List Nat) : wsum (List.replicate l 0) w = 0 := by
  unfold wsum
  have : ∀ L : List Nat, (L.map fun j => ((w.count j : Nat) : Int) * (List.replicate l (0 : Int)).getD j 0).sum = 0 := by
    intro L
    induction L with
    | nil => rfl
    | cons a L ih =>
      rw [List.map_cons, List.sum_cons, ih]
      have e : (List.replicate l (0 : Int)).getD a 0 = 0 := by
        rw [List.getD_eq_getElem?_getD]
        cases h : (List.replicate l (0 : Int))[a]? with
        | none => rfl
        | some b => exact List.eq_of_mem_replicate (List.mem_of_getElem? h)
      rw [e, Int.mul_zero]
      rfl
  exact this _
/-! ### a text times a number, a tuple once -/
def rMulS : R2 := fun x y H Q => ∃ (c : Nat) (n : Nat), x = .str ⟨#[c]⟩ ∧ y = .int (n : Int) ∧ 1 ≤ n ∧ n ≤ 100000 ∧ Q (.str ⟨(List.replicate n c).toArray⟩) H
theorem rep_c (c : Nat) : ∀ (n : Nat) (acc : List Nat), (List.replicate n #[c]).foldl (· ++ ·) acc.toArray = (acc ++ List.replicate n c).toArray
  | 0, acc => by simp
  | n + 1, acc => by
    rw [List.replicate_succ, List.foldl_cons]
    have e : acc.toArray ++ #[c] = (acc ++ [c]).toArray := by simp
    rw [e, rep_c c n]
    rw [List.replicate_succ, List.append_assoc]
    rfl
theorem op_mulS {X : Cx} : OpR X (binaryOp .Mult) rMulS := by
  intro pins s σ H x y v u Q I rx ry h
  obtain ⟨c, n, rfl, rfl, h1, h2, q⟩ := h
  obtain ⟨t, rfl⟩ := rx
  obtain ⟨t', rfl⟩ := ry
  have e1 : ¬ ((n : Int) < 1) := by omega
  have l1 : (⟨#[c]⟩ : Str).length = 1 := rfl
  refine P.mul_str (x := ⟨#[c]⟩) (n := (n : Int)) (t := t) (u := t') ?_ (fun _ _ => ?_) (fun _ _ => ?_) ?_
  · rw [decide_eq_false (by omega), decide_eq_false (by omega)]; rfl
  · rw [l1]
    have : (1 : Int) ≤ (2 ^ 63 - 1) / (n : Int) := by
      rw [Int.le_ediv_iff_mul_le (by omega)]
      omega
    show ¬ (((1 : Nat) : Int) > _)
    omega
  · show decide _ = false
    rw [l1, Int.toNat_natCast, sizeLine_eq]
    exact decide_eq_false (by omega)
  · rw [if_neg e1]
    by_cases e2 : n = 1
    · subst e2
      rw [if_pos (by rfl)]
      exact ⟨.str ⟨#[c]⟩, H, I, ⟨_, rfl⟩, q⟩
    · have e3 : (((n : Int) == 1) || ((⟨#[c]⟩ : Str).length == 0)) = false := by
        rw [l1]
        have : ((n : Int) == 1) = false := beq_eq_false_iff_ne.mpr (by omega)
        rw [this]
        rfl
      rw [e3, if_neg Bool.false_ne_true, Int.toNat_natCast]
      have e4 := rep_c c n []
      rw [List.nil_append] at e4
      rw [e4]
      refine ⟨?_, .str ⟨(List.replicate n c).toArray⟩, H, I.tok _, ⟨_, rfl⟩, q⟩
      show ((List.replicate n c).toArray).size ≤ sizeLine
      rw [List.size_toArray, List.length_replicate, sizeLine_eq]
      omega
theorem tuple_mul1 (l : Addr) (items : Array Value) (n : Nat) (dd : Option Addr) (sl : Array (Option Value)) (u : Tok) :
    Meets (Builtin.«tuple.__mul__» ⟨[.ref l, .int 1 u], []⟩) (fun _ R s => s.heap.get? l = some { cls := .type "tuple", dict := dd, data := .seq items n, slots := sl } ∧ R (.ok (.ret (Value.ref l))) s) :=
  .of_wp fun prog w A R s h => by
    obtain ⟨hp, g, d, tk, os⟩ := s
    obtain ⟨hl, h⟩ := h
    have f1 := AutoSeq1.idx_int
    have c1 : (items.isEmpty || (1 : Int) == 1) = true := by rw [Bool.or_eq_true]; exact .inr rfl
    wp_walk using AutoSeq1.wpAny_loadPart' hl
    repeat (first
      | (refine wpAny_ite_false (decide_eq_false (by decide)) ?_; wp_walk using AutoSeq1.wpAny_loadPart' hl)
      | (refine wpAny_ite_true (decide_eq_true c1) ?_; wp_walk using AutoSeq1.wpAny_loadPart' hl))
    exact ⟨_, rfl, h⟩
def rRepT1 (K : PySem.W.Frag) : R2 := fun x y H Q => ∃ (l : Addr) (k : Nat) (xs : List V), x = .ref l ∧ y = .int (k : Int) ∧ SqT K H l xs ∧ xs ≠ [] ∧ 1 ≤ k ∧ k ≤ 1000 ∧ xs.length ≤ 1000 ∧ (k = 1 → Q (.ref l) H) ∧ ∀ p, H p = none → Q (.ref p) (upd H p (.tup (List.replicate k xs).flatten))
theorem op_repT1 {X : Cx} : OpR X (binaryOp .Mult) (rRepT1 X.K) := by
  intro pins s σ H x y v u Q I rx ry h
  obtain ⟨l, k, xs, rfl, rfl, hT, hne, h1, h2, hz, q1, q⟩ := h
  by_cases e : k = 1
  · subst e
    cases rx
    obtain ⟨t, rfl⟩ := ry
    obtain ⟨its, r, ⟨⟨cls, dd, data, sl⟩, ho, hc, n, hd⟩, hs⟩ := I.tuple hT
    simp only at hc hd
    subst hc hd
    exact wpAny_binaryOp_repeat_ref (T := "tuple") (U := "int") (by decide) ⟨_, ho, rfl⟩ (fun s' => typeIs_int s' ((1 : Nat) : Int) t) noFill_tuple_mul F.fills_int_mul F.slot_int_rmul repeat_tuple F.slot_int_index.lookup
      (call_meets F.slot_int_rmul (typeIs_int s ((1 : Nat) : Int) t) F.entry_int_rmul (F.args_int_rmul_2 _ _) (int_rmul_tuple ((1 : Nat) : Int) t l its.toArray n dd sl)
        ⟨ho, rfl, ⟨_, ho, rfl⟩, call_meets F.slot_tuple_mul ⟨_, ho, rfl⟩ F.entry_tuple_mul (F.args_tuple_mul_2 _ _) (tuple_mul1 l its.toArray n dd sl t) ⟨ho, .ref l, H, I, rfl, q1 rfl⟩⟩)
  · exact op_repT pins s σ H _ _ v u Q I rx ry ⟨l, k, xs, rfl, rfl, hT, hne, by omega, by omega, hz, fun p np => by rw [Int.toNat_natCast]; exact q p np⟩
end KW
/-! Rules: pairs of words; a rule as an object; what changes a word. No row. -/
namespace KR
open PySem PySem.Spec PyProof.Rows L2 GL KC GZ KW
abbrev Pr := List Nat × List Nat
def pD (p : Pr) : PyData := .tuple [.str (wS p.1), .str (wS p.2)]
def rD (rs : List Pr) : PyData := .tuple (rs.map pD)
structure Rul (l : Nat) (rs : List Pr) : Prop where
  len : rs.length ≤ 6
  ok : ∀ p ∈ rs, 1 ≤ p.1.length ∧ p.1.length ≤ 3 ∧ p.2.length = p.1.length ∧ p.1 ≠ p.2 ∧ (∀ j ∈ p.1, j < l) ∧ ∀ j ∈ p.2, j < l
structure RuleAt (H : Hp) (a : Addr) (rs : List Pr) : Prop where
  ex : ∃ ts : List Addr, H a = some (.tup (ts.map V.ref)) ∧ ts.length = rs.length ∧ ∀ (i : Nat) (p : Pr), rs[i]? = some p → ∃ t : Addr, ts[i]? = some t ∧ H t = some (.tup [.str (wS p.1), .str (wS p.2)])
theorem RuleAt.same {H H' : Hp} {a : Addr} {rs : List Pr} (R : RuleAt H a rs) (s : Same H H') : RuleAt H' a rs := by
  obtain ⟨ts, h1, h2, h3⟩ := R.ex
  exact ⟨ts, s _ _ h1, h2, fun i p e => let ⟨t, a, b⟩ := h3 i p e; ⟨t, a, s _ _ b⟩⟩
theorem pairs_dt {K : PySem.W.Frag} {H : Hp} : ∀ {ts : List Addr} {rs : List Pr}, ts.length = rs.length → (∀ (i : Nat) (p : Pr), rs[i]? = some p → ∃ t : Addr, ts[i]? = some t ∧ H t = some (.tup [.str (wS p.1), .str (wS p.2)])) → DtAll K H (ts.map V.ref) (rs.map pD)
  | [], [], _, _ => .nil
  | t :: ts, p :: rs, hl, h => by
    obtain ⟨t', h1, h2⟩ := h 0 p rfl
    cases h1
    refine .cons (.tup h2 (.cons (.str _) (.cons (.str _) .nil))) (pairs_dt (by simpa using hl) fun i q hq => ?_)
    obtain ⟨t2, a, b⟩ := h (i + 1) q (by simpa using hq)
    exact ⟨t2, by simpa using a, b⟩
theorem RuleAt.dt {K : PySem.W.Frag} {H : Hp} {a : Addr} {rs : List Pr} (R : RuleAt H a rs) : Dt K H (.ref a) (rD rs) := by
  obtain ⟨ts, h1, h2, h3⟩ := R.ex
  exact .tup h1 (pairs_dt h2 h3)
theorem word_shown (w : List Nat) (hw : ∀ j ∈ w, j < 4) : (PyData.str (wS w)).shown.length ≤ 10 * w.length + 2 := by
  rw [PyData.shown_str]
  have h := StrLaws.reprText_len (wS w) (fun c hc => by
    rw [wS_list] at hc
    obtain ⟨j, hj, e⟩ := List.mem_map.mp hc
    have := hw j hj
    omega)
  rw [wS_len] at h
  exact h
theorem fit_word {w : List Nat} {n k : Nat} (hw : ∀ j ∈ w, j < 4) (hn : 10 * w.length + 2 ≤ n) : Fit n k (.str (wS w)) := fit_str (word_shown w hw) hn
theorem Rul.fit {l : Nat} {rs : List Pr} (R : Rul l rs) (l4 : l ≤ 4) : Fit 1000 2 (rD rs) := by
  have one : ∀ p ∈ rs, Fit 71 1 (pD p) := fun p hp => by
    obtain ⟨h1, h2, h3, _, h5, h6⟩ := R.ok p hp
    exact (Fit.tup (FitAll.cons (fit_word (n := 32) (k := 0) (fun j hj => Nat.lt_of_lt_of_le (h5 j hj) l4) (by omega)) (FitAll.cons (fit_word (n := 32) (fun j hj => Nat.lt_of_lt_of_le (h6 j hj) l4) (by omega)) FitAll.nil))).mono (by omega) (Nat.le_refl _)
  have all : ∀ qs : List Pr, (∀ p ∈ qs, Fit 71 1 (pD p)) → FitAll (73 * qs.length) 1 (qs.map pD) := by
    intro qs
    induction qs with
    | nil => intro _; exact FitAll.nil
    | cons p qs ih =>
      intro h
      exact (FitAll.cons (h p List.mem_cons_self) (ih fun q hq => h q (List.mem_cons_of_mem _ hq))).mono (by rw [List.length_cons]; omega) (Nat.le_refl _)
  exact (Fit.tup (all rs one)).mono (by have := R.len; omega) (Nat.le_refl _)
def spRule : Sp := fun vs H Q _ => ∃ (d c : Addr) (l m : Nat), vs = [.ref d, .int l] ∧ Deck H d c m ∧ m ≤ 900000000 ∧ 1 ≤ l ∧ l ≤ 4 ∧
  ∀ (a : Addr) (rs : List Pr) (G : Hp), Rul l rs → RuleAt (Hd d c G) a rs → Deck G d c (m + 100) → Same (Hd d c H) (Hd d c G) → Q (.ref a) G

/-! ### what changes a word -/
/-- a stands in w at k -/
def At (w a : List Nat) (k : Nat) : Prop := (w.drop k).take a.length = a
theorem At.le {w a : List Nat} {k : Nat} (h : At w a k) (ha : 1 ≤ a.length) : k + a.length ≤ w.length := by
  have := congrArg List.length h
  rw [List.length_take, List.length_drop] at this
  omega
/-- the partner of the word of the pair that stands at k -/
def Hit (w : List Nat) (p : Pr) (k : Nat) (b : List Nat) : Prop := (At w p.1 k ∧ b = p.2) ∨ (At w p.2 k ∧ b = p.1)
def sw (p : Pr) : Pr := (p.2, p.1)
theorem Hit.sw {w : List Nat} {p : Pr} {k : Nat} {b : List Nat} : Hit w (sw p) k b ↔ Hit w p k b := Or.comm
/-- the change of a word -/
structure IsChg (rs : List Pr) (w : List Nat) (x : Nat × Nat × List Nat) : Prop where
  hit : ∃ p, rs[x.2.1]? = some p ∧ Hit w p x.1 x.2.2
  low : ∀ (k i : Nat) (p : Pr) (b : List Nat), rs[i]? = some p → Hit w p k b → x.1 < k ∨ (x.1 = k ∧ x.2.1 ≤ i)
def NoChg (rs : List Pr) (w : List Nat) : Prop := ∀ (k i : Nat) (p : Pr) (b : List Nat), rs[i]? = some p → ¬ Hit w p k b
theorem hit_one {l : Nat} {rs : List Pr} (R : Rul l rs) {w : List Nat} {i k : Nat} {p : Pr} {b b' : List Nat} (hp : rs[i]? = some p) (h : Hit w p k b) (h' : Hit w p k b') : b = b' := by
  obtain ⟨h1, _, h3, h4, _⟩ := R.ok p (List.mem_of_getElem? hp)
  have no : ¬ (At w p.1 k ∧ At w p.2 k) := fun ⟨a1, a2⟩ => h4 (by
    unfold At at a1 a2
    rw [h3] at a2
    exact a1.symm.trans a2)
  rcases h with ⟨a, rfl⟩ | ⟨a, rfl⟩ <;> rcases h' with ⟨a', rfl⟩ | ⟨a', rfl⟩
  · rfl
  · exact absurd ⟨a, a'⟩ no
  · exact absurd ⟨a', a⟩ no
  · rfl
theorem IsChg.one {l : Nat} {rs : List Pr} (R : Rul l rs) {w : List Nat} {x y : Nat × Nat × List Nat} (h : IsChg rs w x) (h' : IsChg rs w y) : x = y := by
  obtain ⟨p, p1, p2⟩ := h.hit
  obtain ⟨q, q1, q2⟩ := h'.hit
  have a := h.low _ _ _ _ q1 q2
  have b := h'.low _ _ _ _ p1 p2
  have e1 : x.1 = y.1 := by omega
  have e2 : x.2.1 = y.2.1 := by omega
  rw [← e2, p1] at q1
  cases q1
  rw [← e1] at q2
  have e3 := hit_one R p1 p2 q2
  obtain ⟨x1, x2, x3⟩ := x
  obtain ⟨y1, y2, y3⟩ := y
  simp only at e1 e2 e3
  rw [e1, e2, e3]
open Classical in
noncomputable def chg (rs : List Pr) (w : List Nat) : Option (Nat × Nat × List Nat) := if h : ∃ x, IsChg rs w x then some h.choose else none
theorem chg_some {l : Nat} {rs : List Pr} (R : Rul l rs) {w : List Nat} {x : Nat × Nat × List Nat} (h : IsChg rs w x) : chg rs w = some x := by
  unfold chg
  have e : ∃ x, IsChg rs w x := ⟨x, h⟩
  rw [dif_pos e]
  exact congrArg some (IsChg.one R e.choose_spec h)
theorem chg_none {rs : List Pr} {w : List Nat} (h : NoChg rs w) : chg rs w = none := by
  unfold chg
  have e : ¬ ∃ x, IsChg rs w x := fun ⟨x, hx⟩ => by
    obtain ⟨p, p1, p2⟩ := hx.hit
    exact h _ _ _ _ p1 p2
  rw [dif_neg e]
theorem chg_is {rs : List Pr} {w : List Nat} {x : Nat × Nat × List Nat} (h : chg rs w = some x) : IsChg rs w x := by
  unfold chg at h
  by_cases e : ∃ x, IsChg rs w x
  · rw [dif_pos e] at h
    cases h
    exact e.choose_spec
  · rw [dif_neg e] at h
    cases h
theorem chg_sw {l : Nat} {rs : List Pr} (R : Rul l rs) (R' : Rul l (rs.map sw)) (w : List Nat) : chg (rs.map sw) w = chg rs w := by
  have at' : ∀ {i : Nat} {p : Pr}, (rs.map sw)[i]? = some p → ∃ q, rs[i]? = some q ∧ p = sw q := fun {i p} h => by
    rw [List.getElem?_map] at h
    cases e : rs[i]? with
    | none => rw [e] at h; cases h
    | some q => rw [e] at h; exact ⟨q, rfl, (Option.some.inj h).symm⟩
  cases e : chg rs w with
  | some x =>
    obtain ⟨⟨p, p1, p2⟩, lo⟩ := chg_is e
    refine chg_some R' ⟨⟨sw p, by rw [List.getElem?_map, p1]; rfl, Hit.sw.mpr p2⟩, fun k i q b hq hb => ?_⟩
    obtain ⟨q', q1, rfl⟩ := at' hq
    exact lo k i q' b q1 (Hit.sw.mp hb)
  | none =>
    cases e' : chg (rs.map sw) w with
    | none => rfl
    | some x =>
      obtain ⟨⟨p, p1, p2⟩, lo⟩ := chg_is e'
      obtain ⟨q', q1, rfl⟩ := at' p1
      have := chg_some R (x := x) ⟨⟨q', q1, Hit.sw.mp p2⟩, fun k i q b hq hb => lo k i (sw q) b (by rw [List.getElem?_map, hq]; rfl) (Hit.sw.mpr hb)⟩
      rw [e] at this
      cases this
theorem Rul.sw {l : Nat} {rs : List Pr} (R : Rul l rs) : Rul l (rs.map sw) := by
  refine ⟨by rw [List.length_map]; exact R.len, fun p hp => ?_⟩
  obtain ⟨q, hq, rfl⟩ := List.mem_map.mp hp
  obtain ⟨h1, h2, h3, h4, h5, h6⟩ := R.ok q hq
  exact ⟨by show 1 ≤ q.2.length; omega, by show q.2.length ≤ 3; omega, h3.symm, fun e => h4 e.symm, h6, h5⟩
/-- the word that comes -/
def come (w : List Nat) (x : Nat × Nat × List Nat) : List Nat := w.take x.1 ++ x.2.2 ++ w.drop (x.1 + x.2.2.length)
/-- the value that tells it -/
def Res (w : List Nat) : Option (Nat × Nat × List Nat) → V → Hp → Prop
  | none, v, _ => v = .non
  | some x, v, G => ∃ t : Addr, v = .ref t ∧ G t = some (.tup [.int x.1, .int x.2.1, .str (wS (come w x))])
def spChg : Sp := fun vs H Q _ => ∃ (a : Addr) (l : Nat) (rs : List Pr) (w : List Nat), vs = [.ref a, .str (wS w)] ∧ RuleAt H a rs ∧ Rul l rs ∧ w.length ≤ 1000 ∧ ∀ (v : V) (G : Hp), Same H G → Res w (chg rs w) v G → Q v G
def resD (w : List Nat) : Option (Nat × Nat × List Nat) → PyData
  | none => .none
  | some x => .tuple [.int x.1, .int x.2.1, .str (wS (come w x))]
theorem Res.dt {K : PySem.W.Frag} {w : List Nat} {o : Option (Nat × Nat × List Nat)} {v : V} {G : Hp} (h : Res w o v G) : Dt K G v (resD w o) := by
  cases o with
  | none =>
    have e : v = .non := h
    rw [e]
    exact .non
  | some x =>
    obtain ⟨t, rfl, g⟩ := h
    exact .tup g (.cons (.int _) (.cons (.int _) (.cons (.str _) .nil)))

/-! ### texts -/
theorem add_inj : ∀ x y : List Nat, x.map (97 + ·) = y.map (97 + ·) → x = y
  | [], [], _ => rfl
  | [], b :: y, h => nomatch h
  | a :: x, [], h => nomatch h
  | a :: x, b :: y, h => by
    rw [List.map_cons, List.map_cons] at h
    injection h with h1 h2
    have e : a = b := by omega
    rw [e, add_inj x y h2]
theorem find_wS (w a : List Nat) (ha : 1 ≤ a.length) : (Txt.find (wS w) (wS a) = -1 ∧ ∀ k, ¬ At w a k) ∨ ∃ k : Nat, Txt.find (wS w) (wS a) = (k : Int) ∧ At w a k ∧ ∀ j, j < k → ¬ At w a j := by
  have iff : ∀ k, StrLaws.At (wS w) (wS a) (wS w).length k ↔ At w a k := fun k => by
    have e : Builtin.Str.subAt (wS w) (wS a) k = true ↔ At w a k := by
      unfold Builtin.Str.subAt At
      rw [wS_len]
      show ((((w.map (97 + ·)).toArray).extract k (k + a.length)) == ((a.map (97 + ·)).toArray)) = true ↔ _
      rw [beq_iff_eq, ← Array.toList_inj]
      simp only [List.extract_toArray, List.extract_eq_take_drop, Nat.add_sub_cancel_left, ← List.map_drop, ← List.map_take]
      exact ⟨fun h => add_inj _ _ h, fun h => by rw [h]⟩
    constructor
    · intro h
      exact e.mp h.2
    · intro h
      refine ⟨?_, e.mpr h⟩
      rw [wS_len, wS_len]
      exact h.le ha
  unfold Txt.find
  rcases StrLaws.occ_head (wS w) (wS a) 1 (Nat.le_refl 1) with ⟨h1, h2⟩ | ⟨i, r, h1, h2, h3⟩
  · rw [h1]
    exact .inl ⟨rfl, fun k hk => h2 k ((iff k).mpr hk)⟩
  · rw [h1]
    exact .inr ⟨i, rfl, (iff i).mp h2, fun j hj hk => h3 j hj ((iff j).mpr hk)⟩
theorem cutS_eq (u : List Nat) (lo hi : Option Int) : cutS (wS u) lo hi = wS ((u.drop (HT.sIx u.length 0 lo)).take (HT.sIx u.length u.length hi - HT.sIx u.length 0 lo)) := by
  unfold cutS
  show (⟨_⟩ : Str) = ⟨_⟩
  rw [wS_len]
  congr 1
  congr 1
  show ((((u.map (97 + ·)).toArray).toList.drop _).take _) = _
  rw [List.map_take, List.map_drop]
theorem sIx_nat (n d k : Nat) : HT.sIx n d (some (k : Int)) = min k n := by
  unfold HT.sIx
  simp
  omega
theorem cut_take (u : List Nat) (k : Nat) : cutS (wS u) none (some (k : Int)) = wS (u.take k) := by
  rw [cutS_eq, sIx_nat]
  show wS ((u.drop 0).take (min k u.length - 0)) = _
  rw [List.drop_zero, Nat.sub_zero, show u.take (min k u.length) = u.take k from List.take_eq_take_iff.mpr (by omega)]
theorem cut_drop (u : List Nat) (k : Nat) : cutS (wS u) (some (k : Int)) none = wS (u.drop k) := by
  rw [cutS_eq, sIx_nat]
  show wS ((u.drop (min k u.length)).take (u.length - min k u.length)) = _
  congr 1
  by_cases h : k ≤ u.length
  · rw [Nat.min_eq_left h, List.take_of_length_le (by rw [List.length_drop]; exact Nat.le_refl _)]
  · have e : min k u.length = u.length := by omega
    rw [e, List.drop_of_length_le (Nat.le_refl _), List.drop_of_length_le (by omega), List.take_nil]
theorem cut_mid (u : List Nat) (k n : Nat) : cutS (wS u) (some (k : Int)) (some ((k + n : Nat) : Int)) = wS ((u.drop k).take n) := by
  rw [cutS_eq, sIx_nat, sIx_nat]
  congr 1
  by_cases h : k ≤ u.length
  · rw [Nat.min_eq_left h]
    exact List.take_eq_take_iff.mpr (by rw [List.length_drop]; omega)
  · have e : min k u.length = u.length := by omega
    have e2 : min (k + n) u.length = u.length := by omega
    rw [e, e2, List.drop_of_length_le (Nat.le_refl _), List.drop_of_length_le (by omega), List.take_nil, List.take_nil]
end KR
/-! What rule_error tells, over data; list(text), list.extend(tuple), list == []. No row. -/
namespace KX
open PySem PySem.Spec PyProof.Rows L2 GL KC GZ KW KR

/-! ### list(text) -/
def rListX : List V → Hp → VK → Prop := fun xs H Q => ∃ z : Str, xs = [.str z] ∧ z.length ≤ sizeLine ∧ ∀ q, H q = none → Q (.ref q) (upd H q (.lst (sgs z)))
theorem call_listX {X : Cx} (hc : X.calm = true) : CallR X (.type "list") rListX := by
  intro pins s σ H xs us Q I r h
  obtain ⟨z, rfl, hz, q⟩ := h
  obtain ⟨u, rfl, rx⟩ := vals1 r
  obtain ⟨t, rfl⟩ := rx
  refine call_list_str (I.ok.hd hc) z t (fun h' tk acc c' hk e hi => ?_) hz
  refine ⟨.ref s.heap.objs.size, upd H s.heap.objs.size (.lst (sgs z)), I.laid hk (Nat.le_refl _) ⟨by unfold sgs; rw [List.length_map, Array.length_toList]; exact hz, acc.toList, c', ?_, by rw [Array.toArray_toList]; exact e⟩, rfl, q _ (I.hok.fresh (Nat.le_refl _))⟩
  refine vals_of_idx _ _ (by unfold sgs; rw [List.length_map, Array.length_toList, Array.length_toList]; exact hi.1) fun j u hj => ?_
  obtain ⟨c, t', hc, rfl⟩ := hi.2 j u (by rw [← Array.getElem?_toList]; exact hj)
  refine ⟨.str ⟨#[c]⟩, ?_, ⟨_, rfl⟩⟩
  unfold sgs
  rw [List.getElem?_map, Array.getElem?_toList, hc]
  rfl

/-! ### l.extend(t), t a tuple -/
theorem extend_tup (l : Addr) (items : Array Value) (n : Nat) (b : Addr) (items2 : Array Value) (n2 : Nat) (dd : Option Addr) (sl : Array (Option Value)) (hs0 : ¬(!items.isEmpty && Builtin.List.listTooLong (items.size + items2.size)) = true) (hs1 : items.size ≤ sizeLine) (hs2 : items.size + items2.size ≤ sizeLine + 1) :
    Meets (Builtin.«list.extend» ⟨[.ref l, .ref b], []⟩) (fun _ R s => s.heap.get? l = some { cls := .type "list", dict := none, data := .seq items n, slots := #[] } ∧ s.heap.get? b = some { cls := .type "tuple", dict := dd, data := .seq items2 n2, slots := sl } ∧ R (.ok (.ret Value.none)) { s with heap := s.heap.update l (Obj.mapSeq fun x => x ++ items2), toks := s.toks }) :=
  .of_wp fun prog w A R s h => by
    obtain ⟨hp, g, d, tk, os⟩ := s; obtain ⟨hl, hb, h⟩ := h; have f1 := AutoSeq1.idx_int; have f2 := AutoSeq1.sub_tuple_tuple; have f3 := AutoSeq1.sub_list_list; have f4 := AutoSeq1.sub_tuple_list; have f5 := AutoSeq1.sub_list_tuple;
    have hz' : (items ++ items2).size ≤ sizeLine + 1 := by rw [Array.size_append]; exact hs2
    wp_walk using (wpAny_updateSeq hl rfl (hz := hs1) (_hz' := hz')), AutoSeq1.wpAny_loadPart' hl, AutoSeq1.wpAny_loadPart' hb; exact ⟨_, rfl, h⟩
def rExtT (K : PySem.W.Frag) : V → List V → Hp → VK → Prop := fun x vs H Q => ∃ l b xs zs, x = .ref l ∧ vs = [.ref b] ∧ H l = some (.lst xs) ∧ H b = some (.tup zs) ∧ xs.length + zs.length ≤ sizeLine ∧ Q .non (upd H l (.lst (xs ++ zs)))
theorem mt_extendT {X : Cx} : MtM X "list.extend" (rExtT X.K) := by
  intro pins s σ H x vs v us Q I rx rv h
  obtain ⟨l, b, xs, zs, rfl, rfl, hH, hB, hz, q⟩ := h
  cases rx
  obtain ⟨u, rfl, ru⟩ := rv.one
  cases ru
  obtain ⟨z, its, n, r, hl, e⟩ := I.lstM hH
  obtain ⟨its2, o2, n2, r2, e2, c2, d2⟩ := tup_at I hB
  have hl2 := r2.length
  obtain ⟨cls, dict, data, slots⟩ := o2
  cases c2
  cases d2
  have hsz : its.toArray.size + its2.toArray.size ≤ sizeLine := by rw [List.size_toArray, List.size_toArray]; omega
  have hlong : ¬ (!its.toArray.isEmpty && Builtin.List.listTooLong (its.toArray.size + its2.toArray.size)) = true := by
    rw [notLongL hsz, Bool.and_false]
    exact Bool.false_ne_true
  refine call_meets F.slot_list_extend ⟨_, e, rfl⟩ F.entry_list_extend (F.args_list_extend_2 _ _)
    (extend_tup l its.toArray n b its2.toArray n2 _ _ hlong (by rw [List.size_toArray]; omega) (by omega)) ⟨e, e2, ?_⟩
  refine ⟨.non, _, I.lset (its' := its ++ its2) hH e (by simp) (r.append r2) ?_, rfl, q⟩
  rw [List.length_append]
  omega

/-! ### a list against an empty one -/
def rEqL0 : R2 := fun x y H Q => ∃ (a b : Addr) (xs : List V), x = .ref a ∧ y = .ref b ∧ H a = some (.lst xs) ∧ H b = some (.lst []) ∧ Q (.bl xs.isEmpty) H
theorem op_eqL0 {X : Cx} (hu : X.A.units < cLine) : OpR X (compareOp .Eq) rEqL0 := by
  intro pins s σ H x y v u Q I rx ry h
  obtain ⟨a, b, xs, rfl, rfl, ha, hb, q⟩ := h
  cases rx
  cases ry
  obtain ⟨its, n, rv, e⟩ := lst_at I ha
  obtain ⟨its2, n2, rv2, e2⟩ := lst_at I hb
  cases rv2
  have l1 : s.heap.IsList a its.toArray := ⟨_, e, rfl, n, rfl⟩
  have l2 : s.heap.IsList b ([] : List Value).toArray := ⟨_, e2, rfl, n2, rfl⟩
  cases its with
  | nil =>
    cases rv
    exact SeqAt.RcAt.lists (e := fun _ => true) l1 l2 rfl hu (fun j h1 _ => absurd h1 (Nat.not_lt_zero j)) X.prog X.w _ _ ⟨.bl true, H, I, rfl, q⟩
  | cons y ys =>
    cases rv with
    | cons r1 r2 => exact SeqAt.RcAt.lists_lengths l1 l2 rfl hu X.prog X.w _ _ ⟨.bl false, H, I, rfl, q⟩

/-! ### isinstance over data -/
def isTup : PyData → Bool
  | .tuple _ => true
  | _ => false
def isStr : PyData → Bool
  | .str _ => true
  | _ => false
theorem kf_NoneType_tuple : kitB "NoneType" "tuple" = some false := by decide +kernel
theorem kf_bool_tuple : kitB "bool" "tuple" = some false := by decide +kernel
theorem kf_int_tuple : kitB "int" "tuple" = some false := by decide +kernel
theorem kf_str_tuple : kitB "str" "tuple" = some false := by decide +kernel
theorem kf_list_tuple : kitB "list" "tuple" = some false := by decide +kernel
theorem kf_tuple_tuple : kitB "tuple" "tuple" = some true := by decide +kernel
theorem kf_dict_tuple : kitB "dict" "tuple" = some false := by decide +kernel
theorem kf_NoneType_str : kitB "NoneType" "str" = some false := by decide +kernel
theorem kf_bool_str : kitB "bool" "str" = some false := by decide +kernel
theorem kf_int_str : kitB "int" "str" = some false := by decide +kernel
theorem kf_str_str : kitB "str" "str" = some true := by decide +kernel
theorem kf_list_str : kitB "list" "str" = some false := by decide +kernel
theorem kf_tuple_str : kitB "tuple" "str" = some false := by decide +kernel
theorem kf_dict_str : kitB "dict" "str" = some false := by decide +kernel
section
variable {K : PySem.W.Frag} {H : Hp} {v : V} {d : PyData}
theorem is_tuple (h : Dt K H v d) : ∃ t, TyX K H v t ∧ PySem.W.kitOne K t (.type "tuple") = some (isTup d) := by
  cases h with
  | non => exact ⟨_, .base .non, kit_ty kf_NoneType_tuple⟩
  | bl b => exact ⟨_, .base (.bl b), kit_ty kf_bool_tuple⟩
  | int i => exact ⟨_, .base (.int i), kit_ty kf_int_tuple⟩
  | str x => exact ⟨_, .base (.str x), kit_ty kf_str_tuple⟩
  | lst e _ => exact ⟨_, .base (.lst e), kit_ty kf_list_tuple⟩
  | tup e _ => exact ⟨_, .base (.tup e), kit_ty kf_tuple_tuple⟩
  | dic e => exact ⟨_, .base (.dK e), kit_ty kf_dict_tuple⟩
theorem is_str (h : Dt K H v d) : ∃ t, TyX K H v t ∧ PySem.W.kitOne K t (.type "str") = some (isStr d) := by
  cases h with
  | non => exact ⟨_, .base .non, kit_ty kf_NoneType_str⟩
  | bl b => exact ⟨_, .base (.bl b), kit_ty kf_bool_str⟩
  | int i => exact ⟨_, .base (.int i), kit_ty kf_int_str⟩
  | str x => exact ⟨_, .base (.str x), kit_ty kf_str_str⟩
  | lst e _ => exact ⟨_, .base (.lst e), kit_ty kf_list_str⟩
  | tup e _ => exact ⟨_, .base (.tup e), kit_ty kf_tuple_str⟩
  | dic e => exact ⟨_, .base (.dK e), kit_ty kf_dict_str⟩
end

/-! ### what rule_error tells -/
def Small (d : PyData) : Prop := wt d ≤ 1000000
theorem Small.len {ds : List PyData} (h : Small (.tuple ds)) : ds.length ≤ 1000000 := by
  have := len_wts ds
  have h' : wts ds + 3 ≤ 1000000 := by simpa only [Small, wt] using h
  omega
theorem Small.mem {d : PyData} {ds : List PyData} (h : Small (.tuple ds)) (m : d ∈ ds) : Small d := by
  have := mem_wts m
  have h' : wts ds + 3 ≤ 1000000 := by simpa only [Small, wt] using h
  show wt d ≤ 1000000
  omega
theorem reprChar_ge (q c : Nat) : 1 ≤ (Builtin.Str.reprChar q c).length := by
  unfold Builtin.Str.reprChar
  dsimp only
  repeat' split
  all_goals simp only [List.length_append, List.length_cons, List.length_nil] <;> omega
theorem foldl_repr_more (q : Nat) : ∀ (l : List Nat) (acc : Array Nat), acc.size + l.length ≤ (l.foldl (fun out c => out ++ (Builtin.Str.reprChar q c).toArray) acc).size
  | [], acc => Nat.le_refl _
  | c :: r, acc => by
    have ih := foldl_repr_more q r (acc ++ (Builtin.Str.reprChar q c).toArray)
    have h := reprChar_ge q c
    simp only [List.foldl_cons, List.length_cons]
    simp only [Array.size_append, List.size_toArray] at ih
    omega
theorem Small.str {x : Str} (h : Small (.str x)) : x.length ≤ 1000000 := by
  have h' : (PyData.str x).shown.length ≤ 1000000 := by simpa only [Small, wt] using h
  rw [PyData.shown_str] at h'
  refine Nat.le_trans ?_ h'
  unfold reprText
  show _ ≤ ((x.cps.foldl (fun out c => out ++ (Builtin.Str.reprChar (reprQuote x) c).toArray) #[reprQuote x]).push (reprQuote x)).size
  rw [Array.size_push, ← Array.foldl_toList]
  have := foldl_repr_more (reprQuote x) x.cps.toList #[reprQuote x]
  have e : x.cps.toList.length = x.length := by simp [Str.length]
  rw [e] at this
  omega
/-- the letters -/
def ab (l : Nat) : Str := wS (List.range l)
def inA (l : Nat) (c : Nat) : Bool := decide (c ∈ (ab l).cps.toList)
def okP (l : Nat) (x : Str) : Bool := decide (1 ≤ x.length) && decide (x.length ≤ 3) && x.cps.toList.all (inA l)
def pieceD (l : Nat) : PyData → Option Str
  | .str x => if okP l x then some x else none
  | _ => none
def pairD (l : Nat) : PyData → Option (Str × Str)
  | .tuple [a, b] => match pieceD l a, pieceD l b with
    | some x, some y => if x.length = y.length ∧ x ≠ y then some (x, y) else none
    | _, _ => none
  | _ => none
def walkE (l : Nat) : Nat → List Str → List PyData → Option Nat
  | _, _, [] => none
  | i, tk, d :: ds => match pairD l d with
    | none => some i
    | some (x, y) => if x ∈ tk ∨ y ∈ tk then some i else walkE l (i + 1) (tk ++ [x, y]) ds
def errD (l : Nat) : PyData → PyData
  | .tuple ds => match walkE l 0 [] ds with
    | some i => .tuple [.int i, .str "pair"]
    | none => if 6 < ds.length then .tuple [.none, .str "many"] else .none
  | _ => .tuple [.none, .str "rule"]
theorem piece_str {l : Nat} {d : PyData} {x : Str} (h : pieceD l d = some x) : d = .str x ∧ okP l x = true := by
  cases d with
  | str y =>
    simp only [pieceD] at h
    split at h
    · cases h; exact ⟨rfl, by assumption⟩
    · cases h
  | _ => simp [pieceD] at h
theorem pair_two {l : Nat} {d : PyData} {x y : Str} (h : pairD l d = some (x, y)) : d = .tuple [.str x, .str y] ∧ x.length = y.length ∧ x ≠ y ∧ okP l x = true ∧ okP l y = true := by
  unfold pairD at h
  split at h
  · split at h
    · rename_i a b x' y' e1 e2
      split at h
      · rename_i c
        cases h
        obtain ⟨rfl, o1⟩ := piece_str e1
        obtain ⟨rfl, o2⟩ := piece_str e2
        exact ⟨rfl, c.1, c.2, o1, o2⟩
      · cases h
    · cases h
  · cases h
theorem pair_no {l : Nat} {ds : List PyData} (h : ds.length ≠ 2) : pairD l (.tuple ds) = none := by
  unfold pairD
  split
  · rename_i e
    cases e
    exact absurd rfl h
  · rfl
theorem inV_strs (x : Str) (tk : List Str) : inV (.str x) (tk.map V.str) = decide (x ∈ tk) := by
  unfold inV
  induction tk with
  | nil => rfl
  | cons y ys ih =>
    rw [List.map_cons, List.any_cons, ih]
    have e : eqV (.str y) (.str x) = decide (x = y) := by
      by_cases c : x = y
      · subst c; simp [eqV]
      · have c' : y ≠ x := fun z => c z.symm
        simp [eqV, c, c']
    rw [e]
    simp [Bool.decide_or]
theorem flat_strs (tk : List Str) : (tk.map V.str).all flatV = true := by
  rw [List.all_eq_true]; intro x hx; obtain ⟨y, _, rfl⟩ := List.mem_map.mp hx; rfl
def spPiece (K : PySem.W.Frag) : Sp := fun vs H Q _ => ∃ (l : Nat) (v : V) (d : PyData), vs = [.int l, v] ∧ Dt K H v d ∧ Small d ∧ 1 ≤ l ∧ l ≤ 4 ∧ ∀ G, Same H G → Q (.bl (pieceD l d).isSome) G
def spLPiece (K : PySem.W.Frag) : Sp := fun vs H Q _ => ∃ (l : Nat) (v : V) (d : PyData), vs = [v, .int l] ∧ Dt K H v d ∧ Small d ∧ 1 ≤ l ∧ l ≤ 4 ∧ ∀ G, Same H G → Q (.bl (pieceD l d).isSome) G
def spPair (K : PySem.W.Frag) : Sp := fun vs H Q _ => ∃ (l : Nat) (v : V) (d : PyData), vs = [.int l, v] ∧ Dt K H v d ∧ Small d ∧ 1 ≤ l ∧ l ≤ 4 ∧ ∀ G, Same H G → Q (.bl (pairD l d).isSome) G
def spRErr (K : PySem.W.Frag) : Sp := fun vs H Q _ => ∃ (l : Nat) (v : V) (d : PyData), vs = [.int l, v] ∧ Dt K H v d ∧ Small d ∧ 1 ≤ l ∧ l ≤ 4 ∧ ∀ v' G, Same H G → Dt K G v' (errD l d) → Q v' G
end KX
/-! Data over the heap as GLayer's, with any dict of the program's. -/
namespace GU
open PySem PySem.Spec PyProof.Rows L2 GL
mutual
inductive Du (K : PySem.W.Frag) (H : Hp) : V → PyData → Prop
  | non : Du K H .non .none
  | bl (b : Bool) : Du K H (.bl b) (.bool b)
  | int (i : Int) : Du K H (.int i) (.int i)
  | str (x : Str) : Du K H (.str x) (.str x)
  | lst {a : Addr} {vs : List V} {ds : List PyData} : H a = some (.lst vs) → DuAll K H vs ds → Du K H (.ref a) (.list ds)
  | tup {a : Addr} {vs : List V} {ds : List PyData} : H a = some (.tup vs) → DuAll K H vs ds → Du K H (.ref a) (.tuple ds)
  | dic {a : Addr} {kvs : List (Key × V)} : H a = some (.dK kvs) → Du K H (.ref a) (.dict [])
inductive DuAll (K : PySem.W.Frag) (H : Hp) : List V → List PyData → Prop
  | nil : DuAll K H [] []
  | cons {v : V} {vs : List V} {d : PyData} {ds : List PyData} : Du K H v d → DuAll K H vs ds → DuAll K H (v :: vs) (d :: ds)
end
section
variable {K : PySem.W.Frag} {H H' : Hp}
mutual
theorem Du.same (e : Same H H') : ∀ {d : PyData} {v : V}, Du K H v d → Du K H' v d
  | _, _, .non => .non
  | _, _, .bl b => .bl b
  | _, _, .int i => .int i
  | _, _, .str x => .str x
  | _, _, .lst h a => .lst (e _ _ h) (DuAll.same e a)
  | _, _, .tup h a => .tup (e _ _ h) (DuAll.same e a)
  | _, _, .dic h => .dic (e _ _ h)
theorem DuAll.same (e : Same H H') : ∀ {ds : List PyData} {vs : List V}, DuAll K H vs ds → DuAll K H' vs ds
  | _, _, .nil => .nil
  | _, _, .cons h a => .cons (Du.same e h) (DuAll.same e a)
end
theorem DuAll.length {ds : List PyData} : ∀ {vs : List V}, DuAll K H vs ds → vs.length = ds.length := by
  induction ds with
  | nil => intro vs h; cases h; rfl
  | cons d ds ih => intro vs h; cases h with | cons h1 h2 => simp [ih h2]
theorem DuAll.append : ∀ {ds es : List PyData} {vs us : List V}, DuAll K H vs ds → DuAll K H us es → DuAll K H (vs ++ us) (ds ++ es)
  | _, _, _, _, .nil, h => h
  | _, _, _, _, .cons a b, h => .cons a (DuAll.append b h)
theorem DuAll.take : ∀ {ds : List PyData} {vs : List V} (n : Nat), DuAll K H vs ds → DuAll K H (vs.take n) (ds.take n)
  | _, _, 0, _ => .nil
  | _, _, _ + 1, .nil => .nil
  | _, _, n + 1, .cons a b => .cons a (DuAll.take n b)
theorem DuAll.drop : ∀ {ds : List PyData} {vs : List V} (n : Nat), DuAll K H vs ds → DuAll K H (vs.drop n) (ds.drop n)
  | _, _, 0, h => h
  | _, _, _ + 1, .nil => .nil
  | _, _, n + 1, .cons _ b => DuAll.drop n b
theorem DuAll.get : ∀ {ds : List PyData} {vs : List V} {i : Nat} {v : V}, DuAll K H vs ds → vs[i]? = some v → ∃ d, ds[i]? = some d ∧ Du K H v d
  | _, _, i, _, .nil, h => by simp at h
  | _, _, 0, _, .cons a _, h => by simp at h; subst h; exact ⟨_, rfl, a⟩
  | _, _, i + 1, v, .cons _ b, h => by
    obtain ⟨d, h1, h2⟩ := DuAll.get (i := i) (v := v) b (by simpa using h)
    exact ⟨d, by simpa using h1, h2⟩
end

end GU
/-! What machine_error, rule_error, scheme_error tell, over data with any dict. -/
namespace KU
open PySem L2 GL KC GZ KW KR GU
open KX (Small pieceD pairD walkE errD okP inA ab)
open KX.Small (len mem str)
/-! ### what a machine is, over data -/
def isTup : PyData → Bool
  | .tuple _ => true
  | _ => false
def isStr : PyData → Bool
  | .str _ => true
  | _ => false
def isInt : PyData → Bool
  | .int _ => true
  | .bool _ => true
  | _ => false
def isBl : PyData → Bool
  | .bool _ => true
  | _ => false
def isNon : PyData → Bool
  | .none => true
  | _ => false
/-- an integer from lo to hi -/
def inR (lo hi : Int) : PyData → Bool
  | .int i => decide (lo ≤ i) && decide (i ≤ hi)
  | _ => false
def rowOk (letters states : Int) : PyData → Bool
  | .tuple ds => decide ((ds.length : Int) = letters) && ds.all fun d => isNon d || inR 0 (states - 1) d
  | _ => false
def rowsOk (letters : Int) : PyData → Bool
  | .tuple ds => decide (1 ≤ ds.length) && decide (ds.length ≤ 400) && ds.all (rowOk letters ds.length)
  | _ => false
def endsOk (states : Int) : PyData → Bool
  | .tuple ds => decide ((ds.length : Int) = states) && ds.all isBl
  | _ => false
def len0 : PyData → Int
  | .tuple ds => ds.length
  | _ => 0
def err : PyData → V
  | .tuple [l, r, e] => match l with
    | .int n => if inR 1 4 (.int n) then (if rowsOk n r then (if endsOk (len0 r) e then .non else .str "ends") else .str "rows") else .str "letters"
    | _ => .str "letters"
  | _ => .str "machine"

theorem kf_NoneType_tuple : kitB "NoneType" "tuple" = some false := by decide +kernel
theorem kf_bool_tuple : kitB "bool" "tuple" = some false := by decide +kernel
theorem kf_int_tuple : kitB "int" "tuple" = some false := by decide +kernel
theorem kf_str_tuple : kitB "str" "tuple" = some false := by decide +kernel
theorem kf_list_tuple : kitB "list" "tuple" = some false := by decide +kernel
theorem kf_tuple_tuple : kitB "tuple" "tuple" = some true := by decide +kernel
theorem kf_dict_tuple : kitB "dict" "tuple" = some false := by decide +kernel
theorem kf_NoneType_int : kitB "NoneType" "int" = some false := by decide +kernel
theorem kf_bool_int : kitB "bool" "int" = some true := by decide +kernel
theorem kf_int_int : kitB "int" "int" = some true := by decide +kernel
theorem kf_str_int : kitB "str" "int" = some false := by decide +kernel
theorem kf_list_int : kitB "list" "int" = some false := by decide +kernel
theorem kf_tuple_int : kitB "tuple" "int" = some false := by decide +kernel
theorem kf_dict_int : kitB "dict" "int" = some false := by decide +kernel
theorem kf_NoneType_bool : kitB "NoneType" "bool" = some false := by decide +kernel
theorem kf_bool_bool : kitB "bool" "bool" = some true := by decide +kernel
theorem kf_int_bool : kitB "int" "bool" = some false := by decide +kernel
theorem kf_str_bool : kitB "str" "bool" = some false := by decide +kernel
theorem kf_list_bool : kitB "list" "bool" = some false := by decide +kernel
theorem kf_tuple_bool : kitB "tuple" "bool" = some false := by decide +kernel
theorem kf_dict_bool : kitB "dict" "bool" = some false := by decide +kernel
theorem kf_NoneType_str : kitB "NoneType" "str" = some false := by decide +kernel
theorem kf_bool_str : kitB "bool" "str" = some false := by decide +kernel
theorem kf_int_str : kitB "int" "str" = some false := by decide +kernel
theorem kf_str_str : kitB "str" "str" = some true := by decide +kernel
theorem kf_list_str : kitB "list" "str" = some false := by decide +kernel
theorem kf_tuple_str : kitB "tuple" "str" = some false := by decide +kernel
theorem kf_dict_str : kitB "dict" "str" = some false := by decide +kernel
section
variable {K : PySem.W.Frag} {H : Hp} {v : V} {d : PyData} {Q : VK}
theorem is_tuple (h : Du K H v d) : ∃ t, TyX K H v t ∧ PySem.W.kitOne K t (.type "tuple") = some (isTup d) := by
  cases h with
  | non => exact ⟨_, .base .non, kit_ty kf_NoneType_tuple⟩
  | bl b => exact ⟨_, .base (.bl b), kit_ty kf_bool_tuple⟩
  | int i => exact ⟨_, .base (.int i), kit_ty kf_int_tuple⟩
  | str x => exact ⟨_, .base (.str x), kit_ty kf_str_tuple⟩
  | lst e _ => exact ⟨_, .base (.lst e), kit_ty kf_list_tuple⟩
  | tup e _ => exact ⟨_, .base (.tup e), kit_ty kf_tuple_tuple⟩
  | dic e => exact ⟨_, .base (.dK e), kit_ty kf_dict_tuple⟩
theorem is_int (h : Du K H v d) : ∃ t, TyX K H v t ∧ PySem.W.kitOne K t (.type "int") = some (isInt d) := by
  cases h with
  | non => exact ⟨_, .base .non, kit_ty kf_NoneType_int⟩
  | bl b => exact ⟨_, .base (.bl b), kit_ty kf_bool_int⟩
  | int i => exact ⟨_, .base (.int i), kit_ty kf_int_int⟩
  | str x => exact ⟨_, .base (.str x), kit_ty kf_str_int⟩
  | lst e _ => exact ⟨_, .base (.lst e), kit_ty kf_list_int⟩
  | tup e _ => exact ⟨_, .base (.tup e), kit_ty kf_tuple_int⟩
  | dic e => exact ⟨_, .base (.dK e), kit_ty kf_dict_int⟩
theorem is_bool (h : Du K H v d) : ∃ t, TyX K H v t ∧ PySem.W.kitOne K t (.type "bool") = some (isBl d) := by
  cases h with
  | non => exact ⟨_, .base .non, kit_ty kf_NoneType_bool⟩
  | bl b => exact ⟨_, .base (.bl b), kit_ty kf_bool_bool⟩
  | int i => exact ⟨_, .base (.int i), kit_ty kf_int_bool⟩
  | str x => exact ⟨_, .base (.str x), kit_ty kf_str_bool⟩
  | lst e _ => exact ⟨_, .base (.lst e), kit_ty kf_list_bool⟩
  | tup e _ => exact ⟨_, .base (.tup e), kit_ty kf_tuple_bool⟩
  | dic e => exact ⟨_, .base (.dK e), kit_ty kf_dict_bool⟩
theorem is_str (h : Du K H v d) : ∃ t, TyX K H v t ∧ PySem.W.kitOne K t (.type "str") = some (isStr d) := by
  cases h with
  | non => exact ⟨_, .base .non, kit_ty kf_NoneType_str⟩
  | bl b => exact ⟨_, .base (.bl b), kit_ty kf_bool_str⟩
  | int i => exact ⟨_, .base (.int i), kit_ty kf_int_str⟩
  | str x => exact ⟨_, .base (.str x), kit_ty kf_str_str⟩
  | lst e _ => exact ⟨_, .base (.lst e), kit_ty kf_list_str⟩
  | tup e _ => exact ⟨_, .base (.tup e), kit_ty kf_tuple_str⟩
  | dic e => exact ⟨_, .base (.dK e), kit_ty kf_dict_str⟩
theorem isNon_dt (h : Du K H v d) : decide (v = .non) = isNon d := by cases h <;> rfl
end

/-! ### promises -/
def spNumber (K : PySem.W.Frag) : Sp := fun vs H Q _ => ∃ (v : V) (d : PyData) (lo hi : Int), vs = [v, .int lo, .int hi] ∧ Du K H v d ∧ Q (.bl (inR lo hi d)) H
/-- new things may stand in the heap -/
def spRow (K : PySem.W.Frag) : Sp := fun vs H Q _ => ∃ (v : V) (d : PyData) (l n : Int), vs = [v, .int l, .int n] ∧ Du K H v d ∧ Small d ∧ ∀ H', Same H H' → Q (.bl (rowOk l n d)) H'
def spRows (K : PySem.W.Frag) : Sp := fun vs H Q _ => ∃ (v : V) (d : PyData) (l : Int), vs = [v, .int l] ∧ Du K H v d ∧ Small d ∧ ∀ H', Same H H' → Q (.bl (rowsOk l d)) H'
def spEnds (K : PySem.W.Frag) : Sp := fun vs H Q _ => ∃ (v : V) (d : PyData) (n : Int), vs = [v, .int n] ∧ Du K H v d ∧ Small d ∧ ∀ H', Same H H' → Q (.bl (endsOk n d)) H'
def spErr (K : PySem.W.Frag) : Sp := fun vs H Q _ => ∃ (v : V) (d : PyData), vs = [v] ∧ Du K H v d ∧ Small d ∧ ∀ H', Same H H' → Q (err d) H'

/-- len of a list or tuple, the written part by its name -/
def rLenS (K : PySem.W.Frag) : List V → Hp → VK → Prop := fun xs H Q => ∃ (p : Addr) (ys : List V), xs = [.ref p] ∧ (SqL K H p ys ∨ SqT K H p ys) ∧ Q (.int ys.length) H
theorem call_lenS {X : Cx} : CallR X (.builtin "len") (rLenS X.K) := call_len_seq
/-! ### lists of truth values made by a comprehension over data -/
section
variable {K : PySem.W.Frag} {H0 : Hp} {L a : Addr} {p : PyData → Bool} {vs : List V} {ds : List PyData} {g : TG} {tt : TT} {te : TE} {ix : List Nat} {σ : L2.St}
/-- behind i turns -/
def PvB (H0 : Hp) (L : Addr) (p : PyData → Bool) (ds : List PyData) (i : Nat) (G : Hp) : Prop := Same H0 G ∧ G L = some (.lst ((ds.take i).map fun d => V.bl (p d)))
theorem b_start (nL : H0 L = none) : PvB H0 L p ds 0 (upd H0 L (.lst [])) := ⟨same_new nL _, by rw [upd_same]; rfl⟩
theorem b_stay (ha : H0 a = some (.tup vs)) : ∀ i G, i ≤ vs.length → PvB H0 L p ds i G → SqT K G a vs := fun _ _ _ h => .inl (.inl (h.1 _ _ ha))
theorem b_turn (nL : H0 L = none) (hda : DuAll K H0 vs ds) (hz : vs.length ≤ 1000000)
    (step : ∀ (x : V) (d : PyData) (G : Hp) (R : VK) (N : Hp → Prop), d ∈ ds → Same H0 G → Du K G x d → (∀ G', Same G G' → R (.bl (p d)) G') → g x (wipe σ ix) G fun τ G2 => wipe τ ix = wipe σ ix ∧ tt τ G2 fun b G3 => if b = true then te τ G3 R else N G3) :
    ∀ i x G, vs[i]? = some x → PvB H0 L p ds i G → g x (wipe σ ix) G fun τ G2 => wipe τ ix = wipe σ ix ∧ tt τ G2 fun b G3 =>
      if b = true then te τ G3 (fun y G4 => ∃ acc, G4 L = some (.lst acc) ∧ acc.length < sizeLine ∧ PvB H0 L p ds (i + 1) (upd G4 L (.lst (acc ++ [y])))) else PvB H0 L p ds (i + 1) G3 := by
  intro i x G hx h
  obtain ⟨d, hd, hD⟩ := DuAll.get hda hx
  have il : i < ds.length := (List.getElem?_eq_some_iff.mp hd).1
  refine step x d G _ _ (List.mem_of_getElem? hd) h.1 (hD.same h.1) fun G' e => ⟨_, e _ _ h.2, ?_, same_grow nL (h.1.trans e) _, ?_⟩
  · rw [List.length_map, List.length_take, ← hda.length]
    show min i vs.length < 2 ^ 24
    omega
  · rw [upd_same, List.take_add_one, hd]
    simp
end

theorem inR_int {lo hi : Int} : ∀ {d : PyData}, inR lo hi d = true → ∃ i, d = .int i
  | .int i, _ => ⟨i, rfl⟩
theorem rowsOk_tup {l : Int} : ∀ {d : PyData}, rowsOk l d = true → ∃ rs, d = .tuple rs
  | .tuple rs, _ => ⟨rs, rfl⟩
theorem err_no {d : PyData} (h : ∀ l r e, d ≠ .tuple [l, r, e]) : err d = .str "machine" := by
  unfold err
  split
  · exact absurd rfl (h _ _ _)
  · rfl
theorem err_three {l r e : PyData} : err (.tuple [l, r, e]) = if inR 1 4 l = true then (match l with | .int n => (if rowsOk n r then (if endsOk (len0 r) e then .non else .str "ends") else .str "rows") | _ => .non) else .str "letters" := by
  cases l with
  | int n => rfl
  | _ => rfl
def spPiece (K : PySem.W.Frag) : Sp := fun vs H Q _ => ∃ (l : Nat) (v : V) (d : PyData), vs = [.int l, v] ∧ Du K H v d ∧ Small d ∧ 1 ≤ l ∧ l ≤ 4 ∧ ∀ G, Same H G → Q (.bl (pieceD l d).isSome) G
def spLPiece (K : PySem.W.Frag) : Sp := fun vs H Q _ => ∃ (l : Nat) (v : V) (d : PyData), vs = [v, .int l] ∧ Du K H v d ∧ Small d ∧ 1 ≤ l ∧ l ≤ 4 ∧ ∀ G, Same H G → Q (.bl (pieceD l d).isSome) G
def spPair (K : PySem.W.Frag) : Sp := fun vs H Q _ => ∃ (l : Nat) (v : V) (d : PyData), vs = [.int l, v] ∧ Du K H v d ∧ Small d ∧ 1 ≤ l ∧ l ≤ 4 ∧ ∀ G, Same H G → Q (.bl (pairD l d).isSome) G
def spRErr (K : PySem.W.Frag) : Sp := fun vs H Q _ => ∃ (l : Nat) (v : V) (d : PyData), vs = [.int l, v] ∧ Du K H v d ∧ Small d ∧ 1 ≤ l ∧ l ≤ 4 ∧ ∀ v' G, Same H G → Dt K G v' (errD l d) → Q v' G
end KU
/-! Values over the heap that are data of bounded weight. -/
namespace KG
open PySem GL GU KU
open L2 hiding isNon
open KC hiding rLenS call_lenS
def Gv (K : PySem.W.Frag) (H : Hp) (N : Nat) (v : V) : Prop := ∃ x, Du K H v x ∧ wt x ≤ N
def Ga (K : PySem.W.Frag) (H : Hp) (N : Nat) (vs : List V) : Prop := ∃ ds, DuAll K H vs ds ∧ wts ds ≤ N
/-- each one good -/
def Gs (K : PySem.W.Frag) (H : Hp) (N : Nat) (vs : List V) : Prop := ∀ v ∈ vs, Gv K H N v
theorem wts_app : ∀ ds es : List PyData, wts (ds ++ es) = wts ds + wts es
  | [], es => by simp [wts]
  | d :: ds, es => by simp only [List.cons_append, wts, wts_app ds es]; omega
theorem wts_take : ∀ (n : Nat) (ds : List PyData), wts (ds.take n) ≤ wts ds
  | 0, ds => by simp [wts]
  | n + 1, [] => by simp [wts]
  | n + 1, d :: ds => by simp only [List.take_succ_cons, wts]; have := wts_take n ds; omega
theorem wts_drop : ∀ (n : Nat) (ds : List PyData), wts (ds.drop n) ≤ wts ds
  | 0, ds => Nat.le_refl _
  | n + 1, [] => by simp [wts]
  | n + 1, d :: ds => by simp only [List.drop_succ_cons, wts]; have := wts_drop n ds; omega
section
variable {K : PySem.W.Frag} {H G : Hp} {N M : Nat} {v : V} {vs us : List V}
theorem Gv.same (h : Gv K H N v) (s : Same H G) : Gv K G N v := let ⟨x, a, b⟩ := h; ⟨x, a.same s, b⟩
theorem Gv.mono (h : Gv K H N v) (m : N ≤ M) : Gv K H M v := let ⟨x, a, b⟩ := h; ⟨x, a, Nat.le_trans b m⟩
theorem Ga.same (h : Ga K H N vs) (s : Same H G) : Ga K G N vs := let ⟨x, a, b⟩ := h; ⟨x, a.same s, b⟩
theorem Ga.mono (h : Ga K H N vs) (m : N ≤ M) : Ga K H M vs := let ⟨x, a, b⟩ := h; ⟨x, a, Nat.le_trans b m⟩
theorem Gs.same (h : Gs K H N vs) (s : Same H G) : Gs K G N vs := fun v m => (h v m).same s
theorem Gs.mono (h : Gs K H N vs) (m : N ≤ M) : Gs K H M vs := fun v e => (h v e).mono m
theorem Gv.non : Gv K H 5 .non := ⟨_, .non, by simp [wt]⟩
theorem Gv.bl (b : Bool) : Gv K H 5 (.bl b) := ⟨_, .bl b, by simp [wt]⟩
theorem Gv.int (i : Int) (h : i.natAbs < 10 ^ 41) : Gv K H 42 (.int i) := ⟨_, .int i, (fit_int (k := 0) h (Nat.le_refl _)).w⟩
theorem Gv.str {x : Str} (h : (PyData.str x).shown.length ≤ N) : Gv K H N (.str x) := ⟨_, .str x, (fit_str (k := 0) h (Nat.le_refl _)).w⟩
theorem Gv.tup {p : Addr} (e : H p = some (.tup vs)) (h : Ga K H N vs) : Gv K H (N + 3) (.ref p) := let ⟨ds, a, b⟩ := h; ⟨_, .tup e a, by simp only [wt]; omega⟩
theorem Gv.lst {p : Addr} (e : H p = some (.lst vs)) (h : Ga K H N vs) : Gv K H (N + 3) (.ref p) := let ⟨ds, a, b⟩ := h; ⟨_, .lst e a, by simp only [wt]; omega⟩
theorem Gv.dic {p : Addr} {kvs : List (Key × V)} (e : H p = some (.dK kvs)) : Gv K H 2 (.ref p) := ⟨_, .dic e, by simp [wt]⟩
theorem Ga.nil : Ga K H 0 [] := ⟨_, .nil, by simp [wts]⟩
theorem Ga.cons (a : Gv K H N v) (b : Ga K H M vs) : Ga K H (N + 2 + M) (v :: vs) := let ⟨x, a1, a2⟩ := a; let ⟨ds, b1, b2⟩ := b; ⟨_, .cons a1 b1, by simp only [wts]; omega⟩
theorem Ga.append (a : Ga K H N vs) (b : Ga K H M us) : Ga K H (N + M) (vs ++ us) := let ⟨x, a1, a2⟩ := a; let ⟨ds, b1, b2⟩ := b; ⟨_, a1.append b1, by rw [wts_app]; omega⟩
theorem Ga.take (n : Nat) (a : Ga K H N vs) : Ga K H N (vs.take n) := let ⟨x, a1, a2⟩ := a; ⟨_, a1.take n, Nat.le_trans (wts_take _ _) a2⟩
theorem Ga.drop (n : Nat) (a : Ga K H N vs) : Ga K H N (vs.drop n) := let ⟨x, a1, a2⟩ := a; ⟨_, a1.drop n, Nat.le_trans (wts_drop _ _) a2⟩
theorem Ga.cut (lo hi : Option Int) (a : Ga K H N vs) : Ga K H N (cutV vs lo hi) := by
  unfold cutV
  exact (a.drop _).take _
theorem Ga.rep (a : Ga K H N vs) : ∀ k : Nat, Ga K H (k * N) ((List.replicate k vs).flatten)
  | 0 => by rw [Nat.zero_mul]; exact Ga.nil
  | k + 1 => by
    rw [List.replicate_succ, List.flatten_cons]
    exact (a.append (Ga.rep a k)).mono (by rw [Nat.succ_mul]; omega)
theorem Ga.mem (a : Ga K H N vs) (m : v ∈ vs) : Gv K H N v := by
  obtain ⟨ds, a1, a2⟩ := a
  obtain ⟨i, hi⟩ := List.getElem?_of_mem m
  obtain ⟨d, e1, e2⟩ := a1.get hi
  exact ⟨d, e2, Nat.le_trans (mem_wts (List.mem_of_getElem? e1)) a2⟩
theorem Ga.ints : ∀ zs : List Int, (∀ z ∈ zs, z.natAbs < 10 ^ 41) → Ga K H (44 * zs.length) (zs.map V.int)
  | [], _ => Ga.nil
  | z :: zs, h => ((Ga.cons (Gv.int z (h z List.mem_cons_self)) (Ga.ints zs fun y hy => h y (List.mem_cons_of_mem _ hy)))).mono (by rw [List.length_cons]; omega)
theorem Ga.bools : ∀ bs : List Bool, Ga K H (7 * bs.length) (bs.map V.bl)
  | [] => Ga.nil
  | b :: bs => (Ga.cons (Gv.bl b) (Ga.bools bs)).mono (by rw [List.length_cons]; omega)
theorem Gs.nil : Gs K H N [] := fun _ m => nomatch m
theorem Gs.cons (a : Gv K H N v) (b : Gs K H N vs) : Gs K H N (v :: vs) := fun u m => by
  rcases List.mem_cons.mp m with rfl | m
  · exact a
  · exact b u m
theorem Gs.append (a : Gs K H N vs) (b : Gs K H N us) : Gs K H N (vs ++ us) := fun u m => by
  rcases List.mem_append.mp m with m | m
  · exact a u m
  · exact b u m
theorem Gv.small {x : PyData} (h : wt x ≤ N) (n : N ≤ 1000000) : KX.Small x := Nat.le_trans h n
end
/-- a row of a kind: leaves -/
def RowAt (K : PySem.W.Frag) (G : Hp) (l : Nat) (u : V) : Prop := ∃ (t : Addr) (ys : List V), u = .ref t ∧ G t = some (.tup ys) ∧ ys.length = l ∧ Ga K emp (44 * l) ys
theorem RowAt.same {K : PySem.W.Frag} {H G : Hp} {l : Nat} {u : V} (h : RowAt K H l u) (s : Same H G) : RowAt K G l u := let ⟨t, ys, a, b, c⟩ := h; ⟨t, ys, a, s _ _ b, c⟩
theorem RowAt.put {K : PySem.W.Frag} {H : Hp} {l : Nat} {u : V} {E : Addr} {xs : List V} {o : HO} (h : RowAt K H l u) (e : H E = some (.lst xs)) : RowAt K (upd H E o) l u := by
  obtain ⟨t, ys, a, b, c⟩ := h
  refine ⟨t, ys, a, ?_, c⟩
  rw [upd_ne (fun z => by rw [z, e] at b; cases b)]
  exact b
theorem rows_ga {K : PySem.W.Frag} {G : Hp} {l : Nat} : ∀ us : List V, (∀ u ∈ us, RowAt K G l u) → Ga K G (us.length * (44 * l + 5)) us
  | [], _ => Ga.nil.mono (Nat.zero_le _)
  | u :: us, h => by
    obtain ⟨t, ys, rfl, b, c, g⟩ := h u List.mem_cons_self
    have h1 : Gv K G (44 * l + 3) (.ref t) := Gv.tup b (g.same emp_same)
    exact (Ga.cons h1 (rows_ga us fun v m => h v (List.mem_cons_of_mem _ m))).mono (by rw [List.length_cons, Nat.add_mul, Nat.one_mul]; omega)
/-- a kind that is drawn -/
structure KindAt (K : PySem.W.Frag) (H : Hp) (a ra ea : Addr) (l : Nat) (us : List V) (bs : List Bool) : Prop where
  at_ : H a = some (.tup [.int l, .ref ra, .ref ea])
  rows : H ra = some (.tup us)
  ends : H ea = some (.tup (bs.map V.bl))
  row : ∀ u ∈ us, RowAt K H l u
  n1 : 1 ≤ us.length
  n4 : us.length ≤ 4
  eb : bs.length = us.length
  l1 : 1 ≤ l
  l4 : l ≤ 4
theorem KindAt.same {K : PySem.W.Frag} {H G : Hp} {a ra ea : Addr} {l : Nat} {us : List V} {bs : List Bool} (h : KindAt K H a ra ea l us bs) (s : Same H G) : KindAt K G a ra ea l us bs :=
  ⟨s _ _ h.at_, s _ _ h.rows, s _ _ h.ends, fun u m => (h.row u m).same s, h.n1, h.n4, h.eb, h.l1, h.l4⟩
end KG
/-! Steps over the heap beside a deck: new things, rules that keep all, and a list that grows in place. -/
namespace KG
open PySem GL GU KU
open L2 hiding isNon
open KC hiding rLenS call_lenS
structure St (H : Hp) (d c : Addr) (M : Nat) (G : Hp) : Prop where
  D : Deck G d c M
  s : Same (Hd d c H) (Hd d c G)
structure SR (H : Hp) (d c : Addr) (M : Nat) (R : Addr) (xs : List V) (G : Hp) : Prop where
  S : St H d c M G
  g : G R = some (.lst xs)
  n : Hd d c H R = none
  f : R ≠ d ∧ R ≠ c
section
variable {H G G' : Hp} {d c p R : Addr} {M : Nat} {xs ys : List V} {o : HO}
theorem St.new (S : St H d c M G) (n : G p = none) (o : HO) : St H d c M (upd G p o) ∧ Same (Hd d c G) (Hd d c (upd G p o)) ∧ Hd d c (upd G p o) p = some o :=
  ⟨⟨S.D.new n o, S.s.trans (hd_new n o)⟩, hd_new n o, hd_of upd_same (S.D.free n).1 (S.D.free n).2⟩
theorem St.keep (S : St H d c M G) (s : Same G G') : St H d c M G' ∧ Same (Hd d c G) (Hd d c G') := ⟨⟨S.D.same s, S.s.trans (hd_same s)⟩, hd_same s⟩
theorem SR.neD (S : SR H d c M R xs G) (n : G p = none) : p ≠ R := fun e => by rw [e, S.g] at n; cases n
theorem SR.new (S : SR H d c M R xs G) (n : G p = none) (o : HO) : SR H d c M R xs (upd G p o) ∧ Same (Hr R (Hd d c G)) (Hr R (Hd d c (upd G p o))) ∧ Hr R (Hd d c (upd G p o)) p = some o := by
  obtain ⟨s1, s2, s3⟩ := S.S.new n o
  exact ⟨⟨s1, same_new n o _ _ S.g, S.n, S.f⟩, hr_same s2, hr_of s3 (S.neD n)⟩
theorem SR.keep (S : SR H d c M R xs G) (s : Same G G') : SR H d c M R xs G' ∧ Same (Hr R (Hd d c G)) (Hr R (Hd d c G')) := by
  obtain ⟨s1, s2⟩ := S.S.keep s
  exact ⟨⟨s1, s _ _ S.g, S.n, S.f⟩, hr_same s2⟩
theorem SR.tup (S : SR H d c M R xs G) (h : G p = some (.tup ys)) : Hr R (Hd d c G) p = some (.tup ys) := hr_of (S.S.D.tup h) fun e => by rw [e, S.g] at h; cases h
theorem SR.start (S : St H d c M G) (n : G R = none) (xs : List V) : SR H d c M R xs (upd G R (.lst xs)) ∧ Same (Hd d c G) (Hr R (Hd d c (upd G R (.lst xs)))) := by
  obtain ⟨s1, s2, s3⟩ := S.new n (.lst xs)
  refine ⟨⟨s1, upd_same, S.s.free (hd_none n), S.D.free n⟩, fun b u h => ?_⟩
  exact hr_of (s2 _ _ h) (ne_of_none (hd_some h).1 n)
theorem SR.put (S : SR H d c M R xs G) (ys : List V) : SR H d c M R ys (upd G R (.lst ys)) ∧ Same (Hr R (Hd d c G)) (Hr R (Hd d c (upd G R (.lst ys)))) :=
  ⟨⟨⟨S.S.D.put S.f.1 S.f.2 _, hd_grow S.n S.S.s _⟩, upd_same, S.n, S.f⟩, hr_put⟩
end
end KG
namespace K17
open PySem L2 GL KC
def top (i : Nat) : Stmt := PySem.Challenge.pw_pairedaway_k17_schemes_with_errors.main.body.getD i (.Pass ⟨0, 0, 0, 0⟩)
abbrev sDeck : Stmt := top 20
abbrev sDraw : Stmt := top 21
abbrev sOne : Stmt := top 22
section
variable {P : Program} {w : World} {K : PySem.W.Frag} {mg : Str → Option Value} {base : Heap}
theorem scDeck : FnScope ["_law_script", "_law_cell"] ["_law_script"] (defScope sDeck) := ⟨rfl, rfl, rfl, by decide +kernel, rfl, by decide +kernel, by decide +kernel⟩
theorem ok_deck {f : Addr} {fd : FuncData} (F : Fun K "_law_deck" "_law_deck" sDeck f fd) (T : TxC mg) : FnOk P w K mg base CX0 1 f fd ["_law_script"] (spDeck K) := by
  refine F.ok scDeck (fun vs H Q E h => ?_) (fun cdv A outer s H vs Q E hr h => ?_)
  · obtain ⟨a, ns, rfl, _⟩ := h
    rfl
  obtain ⟨a, ns, rfl, hS, hl, q⟩ := h
  refine ⟨_, pss_one (ps_ret (pe_lst (pa_cons (pe_lc (own := [("_law_cell", 1)]) (g := gName 1) (tt := tYes) rfl scDeck.nd (pi_list (pe_slice sl_list (pv 0) po_none (po_some pe_int)))
      (blkOk_by (own := [("_law_cell", 1)]) (N := ["_law_script", "_law_cell"]) (sc := defScope sDeck) (by decide +kernel)) (fun _ _ _ _ _ => pg_name (i := 1) scDeck.nd rfl (Or.inl rfl)) (fun _ _ _ _ _ => pts_nil)
      (fun _ _ _ _ _ => pe_callB call_absS (by rfl) T.abs (by decide +kernel) (pa_cons (pv 1) pa_nil))) (pa_cons pe_int pa_nil)))), ?_⟩
  refine ⟨_, rfl, _, rfl, a, _, rfl, hS, fun p np => ?_⟩
  have isI : ∀ x ∈ cutV (ns.map V.int) none (some 63), ∃ i : Int, x = .int i := fun x hx => by
    obtain ⟨i, _, e⟩ := List.mem_map.mp (cut_mem hx)
    exact ⟨i, e.symm⟩
  have ll : (cutV (ns.map V.int) none (some 63)).length ≤ 63 := by
    have := cutV_length (ns.map V.int) none (some 63)
    rw [List.length_map] at this
    omega
  generalize cutV (ns.map V.int) none (some 63) = xs at isI ll
  have sp : Same H (upd H p (.lst xs)) := same_new np _
  refine ⟨p, rfl, ⟨_, .inl (.inl upd_same)⟩, fun L nL => lc_list (K := K) (a := p) (xs := xs) (fun i G => Same (upd H p (.lst xs)) G ∧ ∃ ys : List Int, G L = some (.lst (ys.map V.int)) ∧ ys.length = i ∧ ∀ y ∈ ys, 0 ≤ y)
    ⟨same_new nL _, [], upd_same, rfl, fun y z => nomatch z⟩ (fun i G _ h => .inl (.inl (h.1 _ _ upd_same))) (fun i x G hx h => ?_) fun G h => ?_⟩
  · obtain ⟨s1, ys, y1, y2, y3⟩ := h
    obtain ⟨z, rfl⟩ := isI x (List.mem_of_getElem? hx)
    have il : i < xs.length := (List.getElem?_eq_some_iff.mp hx).1
    refine ⟨rfl, _, rfl, z, rfl, _, y1, by rw [List.length_map, y2]; show i < 2 ^ 24; omega, same_grow nL s1 _, ys ++ [if z < 0 then -z else z], by rw [upd_same, List.map_append]; rfl, by rw [List.length_append, y2]; rfl, ?_⟩
    intro y hy
    rcases List.mem_append.mp hy with hy | hy
    · exact y3 y hy
    · rw [List.mem_singleton.mp hy]
      split <;> omega
  · obtain ⟨s1, ys, y1, y2, y3⟩ := h
    refine ⟨by show 2 ≤ 2 ^ 24; decide, fun d nd => ?_⟩
    have sG : Same H G := sp.trans s1
    have ndL : d ≠ L := fun e => by rw [e, y1] at nd; cases nd
    have nHL : H L = none := sp.free nL
    refine q d L _ (sG.trans (same_new nd _)) (sG.free nd) nHL ⟨ndL, ys, 0, upd_same, by rw [upd_ne ndL.symm]; exact y1, by omega, y3, Nat.le_refl _⟩
theorem scDraw : FnScope ["_law_deck_here", "_law_many", "_law_cell", "_law_at", "_law_mixed"] ["_law_deck_here", "_law_many"] (defScope sDraw) := ⟨rfl, rfl, rfl, by decide +kernel, rfl, by decide +kernel, by decide +kernel⟩
theorem ok_draw {f : Addr} {fd : FuncData} (F : Fun K "_law_draw" "_law_draw" sDraw f fd) (T : TxC mg) : FnOk P w K mg base CX0 1 f fd ["_law_deck_here", "_law_many"] spDraw := by
  refine F.ok scDraw (fun vs H Q E h => ?_) (fun cdv A outer s H vs Q E hr h => ?_)
  · obtain ⟨d, c, many, m, rfl, _⟩ := h
    rfl
  obtain ⟨d, c, many, m, rfl, D, hm, p1, p2, q⟩ := h
  refine ⟨_, pss_cons (ps_asg (pe_op op_add (pe_ix ix_list (pv 0) pe_int (fun _ _ => rfl)) pe_int) (pg_sub (pv 0) pe_int set_list))
    (pss_cons (ps_asg (pe_tup (pa_cons pe_int (pa_cons (pe_un un_neg pe_int) pa_nil))) (pg_tup (by rfl) (pgs_cons (pg_name (i := 2) scDraw.nd rfl (Or.inl rfl)) (pgs_cons (pg_name (i := 3) scDraw.nd rfl (Or.inl rfl)) pgs_nil))))
    (pss_cons (ps_if (pt_cmpR op_gt (pe_callB call_len_seq (by rfl) T.len PySem.boot_len (pa_cons (pe_ix ix_list (pv 0) pe_int (fun _ _ => rfl)) pa_nil)) pe_int (nomark _))
      (pss_cons (ps_set (i := 3) scDraw.nd rfl (Or.inl rfl) (pe_op op_mod (pe_callTy call_int1 (by rfl) T.int (by decide +kernel) (pa_cons (pe_ix ix_list (pv 0) pe_int (fun _ _ => rfl)) pa_nil)) (pe_callB call_len_seq (by rfl) T.len PySem.boot_len (pa_cons (pe_ix ix_list (pv 0) pe_int (fun _ _ => rfl)) pa_nil))))
      (pss_one (ps_set (i := 2) scDraw.nd rfl (Or.inl rfl) (pe_ix ix_list (pe_ix ix_list (pv 0) pe_int (fun _ _ => rfl)) (pv 3) (fun _ _ => rfl))))) pss_nil)
    (pss_cons (ps_if (pt_cmpR op_ge (pv 2) (pe_op op_pow pe_int pe_int) (nomark _))
      (pss_cons (ps_asg (pe_op op_fdiv (pe_callTy call_int1 (by rfl) T.int (by decide +kernel) (pa_cons (pv 2) pa_nil)) (pv 1)) (pg_sub (pe_ix ix_list (pv 0) pe_int (fun _ _ => rfl)) (pv 3) set_list))
      (pss_one (ps_ret (pe_op op_mod (pe_callTy call_int1 (by rfl) T.int (by decide +kernel) (pa_cons (pv 2) pa_nil)) (pv 1))))) pss_nil)
    (pss_cons (ps_set (i := 4) scDraw.nd rfl (Or.inl rfl) (pe_op op_add (pe_op op_add (pe_op op_mod (pe_callTy call_int1 (by rfl) T.int (by decide +kernel) (pa_cons (pv 2) pa_nil)) pe_int) (pe_op op_mul pe_int (pe_ix ix_list (pv 0) pe_int (fun _ _ => rfl)))) pe_int))
    (pss_one (ps_ret (pe_op op_mod (pe_callTy call_int1 (by rfl) T.int (by decide +kernel) (pa_cons (pe_op op_mod (pe_callTy call_int1 (by rfl) T.int (by decide +kernel) (pa_cons (pe_op op_pow (pv 4) pe_int) pa_nil)) pe_int) pa_nil)) (pv 1)))))))), ?_⟩
  obtain ⟨ne, L, n, h1, h2, h3, h4, h5⟩ := D
  -- the count goes up
  refine ⟨_, rfl, d, _, 1, .int n, rfl, rfl, .inl (.inl h1), rfl, _, _, rfl, rfl, _, rfl, d, _, 1, 1, rfl, rfl, h1, rfl, ?_⟩
  have e1 : (List.set [V.ref c, V.int n] 1 (V.int ((n : Int) + 1))) = [.ref c, .int ((n + 1 : Nat) : Int)] := rfl
  rw [e1]
  have g1 : upd H d (.lst [.ref c, .int ((n + 1 : Nat) : Int)]) d = some (.lst [.ref c, .int ((n + 1 : Nat) : Int)]) := upd_same
  have g2 : upd H d (.lst [.ref c, .int ((n + 1 : Nat) : Int)]) c = some (.lst (L.map V.int)) := by rw [upd_ne ne.symm]; exact h2
  have sH : Same (Hd d c H) (Hd d c (upd H d (.lst [.ref c, .int ((n + 1 : Nat) : Int)]))) := hd_put (.inl rfl) _
  generalize upd H d (.lst [.ref c, .int ((n + 1 : Nat) : Int)]) = H1 at g1 g2 sH
  have D1 : Deck H1 d c (m + 1) := ⟨ne, L, n + 1, g1, g2, h3, h4, Nat.succ_le_succ h5⟩
  -- the cell and its place
  refine ⟨_, rfl, by show 2 ≤ 2 ^ 24; decide, fun p np => ?_⟩
  replace sH := sH.trans (hd_new np (.tup [V.int 0, V.int (-1)]))
  have gt : upd H1 p (.tup [V.int 0, V.int (-1)]) p = some (.tup [V.int 0, V.int (-1)]) := upd_same
  replace g1 := same_new np (.tup [V.int 0, V.int (-1)]) _ _ g1
  replace g2 := same_new np (.tup [V.int 0, V.int (-1)]) _ _ g2
  replace D1 := D1.new np (.tup [V.int 0, V.int (-1)])
  generalize upd H1 p (.tup [V.int 0, V.int (-1)]) = H2 at sH gt g1 g2 D1
  refine ⟨p, _, rfl, .inl (.inl gt), rfl, _, _, rfl, _, _, rfl, rfl, ?_⟩
  refine ⟨_, rfl, d, _, 0, _, rfl, rfl, .inl (.inl g1), rfl, c, _, rfl, .inl (.inl (.inl g2)), _, _, rfl, rfl, _, rfl, ?_⟩
  have hL : ((L.map V.int).length : Int) = (L.length : Int) := by rw [List.length_map]
  refine ite2 (fun c0 => ?_) (fun c0 => ?_)
  · have lp : 0 < L.length := by have := of_decide_eq_true c0; rw [hL] at this; omega
    have k0 : 0 ≤ ((n + 1 : Nat) : Int) % ((L.map V.int).length : Int) := Int.emod_nonneg _ (by rw [hL]; omega)
    have k1 : ((n + 1 : Nat) : Int) % ((L.map V.int).length : Int) < (L.length : Int) := by
      have := Int.emod_lt_of_pos ((n + 1 : Nat) : Int) (b := ((L.map V.int).length : Int)) (by rw [hL]; omega)
      rw [hL] at this ⊢
      exact this
    have hk : ∀ z : Int, (10 : Int) ^ (18 : Int).toNat ≤ z → ∃ j, ixN (L.map V.int).length (((n + 1 : Nat) : Int) % ((L.map V.int).length : Int)) = some j ∧ j < L.length := fun _ _ => ⟨_, by unfold ixN; rw [if_pos k0, if_pos (by omega)], by omega⟩
    obtain ⟨j0, ej⟩ : ∃ j : Nat, ((n + 1 : Nat) : Int) % ((L.map V.int).length : Int) = (j : Int) := ⟨_, (Int.toNat_of_nonneg k0).symm⟩
    have jl : j0 < L.length := by rw [ej] at k1; omega
    obtain ⟨z, hz0⟩ : ∃ z, L[j0]? = some z := ⟨_, List.getElem?_eq_getElem jl⟩
    have hz : 0 ≤ z := h4 _ (List.mem_of_getElem? hz0)
    replace hk := hk z
    refine ⟨_, rfl, d, _, 1, _, rfl, rfl, .inl (.inl g1), rfl, .inl ⟨_, rfl, ?_⟩⟩
    refine ⟨_, rfl, d, _, 0, _, rfl, rfl, .inl (.inl g1), rfl, c, _, rfl, .inl (.inl (.inl g2)), _, _, rfl, rfl, (by rw [hL]; show (0 : Int) < L.length; omega), ?_⟩
    refine ⟨_, rfl, d, _, 0, _, rfl, rfl, .inl (.inl g1), rfl, _, rfl, c, _, _, _, rfl, rfl, .inl (.inl g2), at_of ej (by rw [List.getElem?_map, hz0]; rfl), ?_⟩
    refine ⟨_, rfl, _, _, rfl, rfl, ⟨by decide, by decide, by decide⟩, _, _, rfl, rfl, _, rfl, ite2 (fun c1 => ?_) (fun c1 => ?_)⟩
    · obtain ⟨j, hj, hj2⟩ := hk (of_decide_eq_true c1)
      refine ⟨_, rfl, .inl ⟨_, rfl, _, rfl, _, _, rfl, rfl, ⟨p1, p2⟩, _, rfl, d, _, 0, _, rfl, rfl, .inl (.inl g1), rfl, _, rfl, c, _, _, j, rfl, rfl, g2, hj, ?_⟩⟩
      refine ⟨_, rfl, .inl ⟨_, rfl, _, rfl, _, _, rfl, rfl, p1, ?_⟩⟩
      refine q _ _ (Int.emod_nonneg _ (by omega)) (Int.emod_lt_of_pos _ p1) ⟨ne, L.set j (z / many), n + 1, ?_, ?_, ?_, ?_, Nat.succ_le_succ h5⟩ (sH.trans (hd_put (.inr rfl) _))
      · rw [upd_ne ne]; exact g1
      · rw [upd_same, List.map_set]
      · rw [List.length_set]; exact h3
      · intro x hx
        rcases List.mem_or_eq_of_mem_set hx with hx | hx
        · exact h4 x hx
        · rw [hx]; exact Int.ediv_nonneg hz (by omega)
    · have b1 : 0 ≤ z % 2147483563 := Int.emod_nonneg _ (by decide)
      have b2 : z % 2147483563 < 2147483563 := Int.emod_lt_of_pos _ (by decide)
      refine ⟨_, rfl, .inl ⟨_, rfl, _, _, rfl, rfl, by show (0 : Int) < 2147483563; decide, _, rfl, d, _, 1, _, rfl, rfl, .inl (.inl g1), rfl, _, _, rfl, rfl, .inl ⟨by decide, by decide⟩, _, _, rfl, rfl, _, _, rfl, rfl, ?_⟩⟩
      refine ⟨_, rfl, _, _, rfl, rfl, ⟨by decide, by decide, ?_⟩, .inl ⟨_, rfl, _, _, rfl, rfl, by show (0 : Int) < 2147483629; decide, .inl ⟨_, rfl, _, rfl, _, _, rfl, rfl, p1, ?_⟩⟩⟩
      · show (z % 2147483563 + 8117 * ((n + 1 : Nat) : Int) + 3).natAbs < 2 ^ 64
        omega
      · exact q _ _ (Int.emod_nonneg _ (by omega)) (Int.emod_lt_of_pos _ p1) D1 sH
  · have hz : (0 : Int) ≤ 0 := Int.le_refl 0
    have hk : (10 : Int) ^ (18 : Int).toNat ≤ 0 → ∃ j, ixN (L.map V.int).length (-1) = some j ∧ j < L.length := fun h => absurd h (by decide)
    refine ⟨_, rfl, _, _, rfl, rfl, ⟨by decide, by decide, by decide⟩, _, _, rfl, rfl, _, rfl, ite2 (fun c1 => ?_) (fun c1 => ?_)⟩
    · obtain ⟨j, hj, hj2⟩ := hk (of_decide_eq_true c1)
      refine ⟨_, rfl, .inl ⟨_, rfl, _, rfl, _, _, rfl, rfl, ⟨p1, p2⟩, _, rfl, d, _, 0, _, rfl, rfl, .inl (.inl g1), rfl, _, rfl, c, _, _, j, rfl, rfl, g2, hj, ?_⟩⟩
      refine ⟨_, rfl, .inl ⟨_, rfl, _, rfl, _, _, rfl, rfl, p1, ?_⟩⟩
      refine q _ _ (Int.emod_nonneg _ (by omega)) (Int.emod_lt_of_pos _ p1) ⟨ne, L.set j ((0 : Int) / many), n + 1, ?_, ?_, ?_, ?_, Nat.succ_le_succ h5⟩ (sH.trans (hd_put (.inr rfl) _))
      · rw [upd_ne ne]; exact g1
      · rw [upd_same, List.map_set]
      · rw [List.length_set]; exact h3
      · intro x hx
        rcases List.mem_or_eq_of_mem_set hx with hx | hx
        · exact h4 x hx
        · rw [hx]; exact Int.ediv_nonneg hz (by omega)
    · have b1 : 0 ≤ (0 : Int) % 2147483563 := Int.emod_nonneg _ (by decide)
      have b2 : (0 : Int) % 2147483563 < 2147483563 := Int.emod_lt_of_pos _ (by decide)
      refine ⟨_, rfl, .inl ⟨_, rfl, _, _, rfl, rfl, by show (0 : Int) < 2147483563; decide, _, rfl, d, _, 1, _, rfl, rfl, .inl (.inl g1), rfl, _, _, rfl, rfl, .inl ⟨by decide, by decide⟩, _, _, rfl, rfl, _, _, rfl, rfl, ?_⟩⟩
      refine ⟨_, rfl, _, _, rfl, rfl, ⟨by decide, by decide, ?_⟩, .inl ⟨_, rfl, _, _, rfl, rfl, by show (0 : Int) < 2147483629; decide, .inl ⟨_, rfl, _, rfl, _, _, rfl, rfl, p1, ?_⟩⟩⟩
      · show ((0 : Int) % 2147483563 + 8117 * ((n + 1 : Nat) : Int) + 3).natAbs < 2 ^ 64
        omega
      · exact q _ _ (Int.emod_nonneg _ (by omega)) (Int.emod_lt_of_pos _ p1) D1 sH
end
section
variable {P : Program} {w : World} {K : PySem.W.Frag} {mg : Str → Option Value} {base : Heap}
theorem scOne : FnScope ["_law_deck_here", "_law_items"] ["_law_deck_here", "_law_items"] (defScope sOne) := ⟨rfl, rfl, rfl, by decide +kernel, rfl, by decide +kernel, by decide +kernel⟩
theorem ok_one {f fD : Addr} {fd fdD : FuncData} (F : Fun K "_law_one" "_law_one" sOne f fd) (T : TxC mg) (W : Dfn P w K mg base "_law_draw" 1 fD fdD ["_law_deck_here", "_law_many"] spDraw) :
    FnOk P w K mg base CX0 2 f fd ["_law_deck_here", "_law_items"] spOne := by
  refine F.ok scOne (fun vs H Q E h => ?_) (fun cdv A outer s H vs Q E hr h => ?_)
  · obtain ⟨d, c, a, xs, m, rfl, _⟩ := h
    rfl
  obtain ⟨d, c, a, xs, m, rfl, D, hm, ha, x0, x1, q⟩ := h
  refine ⟨_, pss_one (ps_ret (pe_ix ix_list (pv 1) (pe_call W.ok hr rfl W.m W.kp W.b .nil pass0 (pa_cons (pv 0) (pa_cons (pe_callB call_len_seq (by rfl) T.len PySem.boot_len (pa_cons (pv 1) pa_nil)) pa_nil))) (fun _ _ => rfl))), ?_⟩
  refine ⟨_, rfl, _, rfl, _, rfl, a, xs, rfl, .inl (.inl (.inl (hd_sub _ _ ha))), d, c, xs.length, m, rfl, D, hm, by omega, by omega, fun r G r0 r1 D2 s2 => ?_⟩
  obtain ⟨j, rfl⟩ : ∃ j : Nat, r = (j : Int) := ⟨r.toNat, by omega⟩
  have jl : j < xs.length := by omega
  obtain ⟨v, hv⟩ : ∃ v, xs[j]? = some v := ⟨_, List.getElem?_eq_getElem jl⟩
  exact ⟨a, xs, _, v, rfl, rfl, .inl (.inl (hd_sub _ _ (s2 _ _ ha))), atI_nat hv, q v G (List.mem_of_getElem? hv) D2 s2⟩
end
end K17
namespace K17
open PySem GL GZ KW KR GU KU
open L2 hiding isNon
open KC hiding rLenS call_lenS
open KX (Small pieceD pairD walkE errD okP inA ab piece_str pair_two pair_no inV_strs flat_strs mt_extendT rExtT op_eqL0 call_listX rListX)
abbrev sNumber : Stmt := top 7
abbrev sRow : Stmt := top 8
abbrev sRows : Stmt := top 9
abbrev sEnds : Stmt := top 10
abbrev sMErr : Stmt := top 11
abbrev sPiece : Stmt := top 13
abbrev sPair : Stmt := top 14
abbrev sRErr : Stmt := top 15
structure Txt (mg : Str → Option Value) : Prop where
  c : TxC mg
  isi : mg "isinstance" = none
  str : mg "str" = none
  bool : mg "bool" = none
  all : mg "all" = none
  enum : mg "enumerate" = none
  list : mg "list" = none
  repr : mg "repr" = none
  ml : ∃ t, mg "MAX_LETTERS" = some (.int 4 t)
  ms : ∃ t, mg "MAX_STATES" = some (.int 8 t)
  mr : ∃ t, mg "MAX_ROWS" = some (.int 400 t)
  mw : ∃ t, mg "MAX_WINDOW" = some (.int 3 t)
  mp : ∃ t, mg "MAX_PAIRS" = some (.int 6 t)
  lt : ∃ t, mg "LETTERS" = some (.str "abcd" t)
section
variable {P : Program} {w : World} {K : PySem.W.Frag} {mg : Str → Option Value} {base : Heap}
theorem scN : FnScope ["value", "low", "high"] ["value", "low", "high"] (defScope sNumber) := ⟨rfl, rfl, rfl, by decide +kernel, rfl, by decide +kernel, by decide +kernel⟩
theorem ok_number {f : Addr} {fd : FuncData} (F : Fun K "is_number" "is_number" sNumber f fd) (T : Txt mg) : FnOk P w K mg base CX0 1 f fd ["value", "low", "high"] (spNumber K) := by
  refine F.ok scN (fun vs H Q E h => ?_) (fun cdv A outer s H vs Q E hr h => ?_)
  · obtain ⟨v, d, lo, hi, rfl, _⟩ := h
    rfl
  obtain ⟨v, d, lo, hi, rfl, hd, q⟩ := h
  refine ⟨_, pss_one (ps_ret (pe_and (pe_callB call_isi (by rfl) T.isi (by decide +kernel) (pa_cons (pv 0) (pa_cons (pe_bltn (v := .ty "int") (by rfl) T.c.int (by decide +kernel) rfl) pa_nil)))
    (pe_and (pe_not (pe_callB call_isi (by rfl) T.isi (by decide +kernel) (pa_cons (pv 0) (pa_cons (pe_bltn (v := .ty "bool") (by rfl) T.bool (by decide +kernel) rfl) pa_nil))))
    (pe_one (pe_chain op_le op_le (pv 1) (pv 0) (pv 2)))))), ?_⟩
  obtain ⟨ti, i1, i2⟩ := is_int hd
  obtain ⟨tb, b1, b2⟩ := is_bool hd
  refine ⟨_, rfl, _, _, ti, _, _, rfl, .ty _, i1, i2, _, rfl, ?_⟩
  cases hd with
  | int i =>
    refine iteT ⟨_, rfl, _, _, tb, _, _, rfl, .ty _, b1, b2, _, rfl, _, rfl, iteT ⟨_, rfl, _, rfl, _, _, rfl, rfl, _, rfl, ite2 (fun c => ?_) (fun c => ?_)⟩⟩
    · refine ⟨_, rfl, _, _, rfl, rfl, ?_⟩
      have e : inR lo hi (.int i) = decide (i ≤ hi) := by
        show (decide (lo ≤ i) && decide (i ≤ hi)) = _
        rw [c]; rfl
      show Q (.bl (decide (i ≤ hi))) H
      rw [← e]; exact q
    · have e : inR lo hi (.int i) = false := by
        show (decide (lo ≤ i) && decide (i ≤ hi)) = _
        rw [Bool.eq_false_iff.mpr c]; rfl
      show Q (.bl false) H
      rw [← e]; exact q
  | bl b => exact iteT ⟨_, rfl, _, _, tb, _, _, rfl, .ty _, b1, b2, _, rfl, _, rfl, iteF q⟩
  | non => exact iteF q
  | str x => exact iteF q
  | lst _ _ => exact iteF q
  | tup _ _ => exact iteF q
  | dic _ => exact iteF q
theorem scR : FnScope ["value", "letters", "states", "item"] ["value", "letters", "states"] (defScope sRow) := ⟨rfl, rfl, rfl, by decide +kernel, rfl, by decide +kernel, by decide +kernel⟩
theorem ok_row {f fN : Addr} {fd fdN : FuncData} (F : Fun K "is_row" "is_row" sRow f fd) (T : Txt mg) (D : Dfn P w K mg base "is_number" 1 fN fdN ["value", "low", "high"] (spNumber K)) :
    FnOk P w K mg base CX0 2 f fd ["value", "letters", "states"] (spRow K) := by
  refine F.ok scR (fun vs H Q E h => ?_) (fun cdv A outer s H vs Q E hr h => ?_)
  · obtain ⟨v, d, l, n, rfl, _⟩ := h
    rfl
  obtain ⟨v, d, l, n, rfl, hd, hw, q⟩ := h
  refine ⟨_, pss_cons (ps_if (PW.pt (pw_or (pt_not (pt_val (pe_callB call_isi (by rfl) T.isi (by decide +kernel) (pa_cons (pv 0) (pa_cons (pe_bltn (v := .ty "tuple") (by rfl) T.c.tuple (by decide +kernel) rfl) pa_nil)))))
      (pw_or1 (pt_cmpR op_ne (pe_callB call_len_seq (by rfl) T.c.len PySem.boot_len (pa_cons (pv 0) pa_nil)) (pv 1) (nomark _))))) (pss_one (ps_ret pe_bl)) pss_nil)
    (pss_one (ps_ret (pe_callB (cr_all rfl) (by rfl) T.all (by decide +kernel) (pa_cons (pe_lc (own := [("item", 3)]) (g := gName 3) (tt := tYes) rfl scR.nd (pi_tup (pv 0))
      (blkOk_by (own := [("item", 3)]) (N := ["value", "letters", "states", "item"]) (sc := defScope sRow) (by decide +kernel)) (fun _ _ _ _ _ => pg_name (i := 3) scR.nd rfl (Or.inl rfl)) (fun _ _ _ _ _ => pts_nil)
      (fun _ _ _ _ _ => pe_or (pe_cmp (pc_isN (pv 3)) rfl) (pe_one (pe_call D.ok hr rfl D.m D.kp D.b .nil pass0 (pa_cons (pv 3) (pa_cons pe_int (pa_cons (pe_op op_sub (pv 2) pe_int) pa_nil))))))) pa_nil)))), ?_⟩
  obtain ⟨ti, i1, i2⟩ := is_tuple hd
  refine ⟨_, rfl, _, _, ti, _, _, rfl, .ty _, i1, i2, _, rfl, ?_⟩
  cases hd with
  | @tup a vs ds ha hda =>
    have hl : vs.length = ds.length := hda.length
    refine iteF ⟨_, rfl, _, _, rfl, .inr (.inl (.inl ha)), _, rfl, rfl, _, rfl, ite2 (fun c => ?_) (fun c => ?_)⟩
    · have c' : ¬ ((ds.length : Int) = l) := by rw [← hl]; simpa using c
      have e : rowOk l n (.tuple ds) = false := by
        show (decide ((ds.length : Int) = l) && _) = false
        rw [decide_eq_false c']; rfl
      show Q (.bl false) H
      rw [← e]; exact q H (Same.refl H)
    · have c' : (ds.length : Int) = l := by rw [← hl]; simpa using c
      have e : rowOk l n (.tuple ds) = ds.all fun d => isNon d || inR 0 (n - 1) d := by
        show (decide ((ds.length : Int) = l) && _) = _
        rw [decide_eq_true c']; rfl
      refine ⟨_, rfl, _, rfl, ⟨_, .inl (.inl ha)⟩, fun L nL => lc_tup (K := K) (a := a) (xs := vs) (PvB H L (fun d => isNon d || inR 0 (n - 1) d) ds) (b_start nL) (b_stay ha)
        (b_turn nL hda (by rw [hl]; exact hw.len) fun x d G R N hm hs hD k => ?_) fun G h => ?_⟩
      · refine ⟨rfl, _, rfl, _, rfl, ite2 (fun c2 => ?_) (fun c2 => ?_)⟩
        · have e2 : (isNon d || inR 0 (n - 1) d) = true := by rw [← isNon_dt hD, c2]; rfl
          rw [← e2]; exact k G (Same.refl G)
        · have e2 : (isNon d || inR 0 (n - 1) d) = inR 0 (n - 1) d := by rw [← isNon_dt hD, Bool.eq_false_iff.mpr c2]; rfl
          refine ⟨_, rfl, _, rfl, _, _, rfl, rfl, x, d, 0, n - 1, rfl, hD, ?_⟩
          rw [← e2]; exact k G (Same.refl G)
      · have hb : G L = some (.lst ((ds.map fun d => isNon d || inR 0 (n - 1) d).map V.bl)) := by
          rw [h.2, hl, List.take_length, List.map_map]; rfl
        refine ⟨_, _, rfl, .inl (.inl hb), ?_⟩
        have e2 : (ds.map fun d => isNon d || inR 0 (n - 1) d).all id = rowOk l n (.tuple ds) := by rw [e, List.all_map]; rfl
        rw [e2]
        exact q G h.1
  | int i => exact iteT (q H (Same.refl H))
  | bl b => exact iteT (q H (Same.refl H))
  | non => exact iteT (q H (Same.refl H))
  | str x => exact iteT (q H (Same.refl H))
  | lst _ _ => exact iteT (q H (Same.refl H))
  | dic _ => exact iteT (q H (Same.refl H))
theorem scRs : FnScope ["value", "letters", "row"] ["value", "letters"] (defScope sRows) := ⟨rfl, rfl, rfl, by decide +kernel, rfl, by decide +kernel, by decide +kernel⟩
theorem ok_rows {f fN : Addr} {fd fdN : FuncData} (F : Fun K "are_rows" "are_rows" sRows f fd) (T : Txt mg) (D : Dfn P w K mg base "is_row" 2 fN fdN ["value", "letters", "states"] (spRow K)) :
    FnOk P w K mg base CX0 3 f fd ["value", "letters"] (spRows K) := by
  refine F.ok scRs (fun vs H Q E h => ?_) (fun cdv A outer s H vs Q E hr h => ?_)
  · obtain ⟨v, d, l, rfl, _⟩ := h
    rfl
  obtain ⟨v, d, l, rfl, hd, hw, q⟩ := h
  obtain ⟨tk, mr⟩ := T.mr
  refine ⟨_, pss_cons (ps_if (PW.pt (pw_or (pt_not (pt_val (pe_callB call_isi (by rfl) T.isi (by decide +kernel) (pa_cons (pv 0) (pa_cons (pe_bltn (v := .ty "tuple") (by rfl) T.c.tuple (by decide +kernel) rfl) pa_nil)))))
      (pw_or1 (pt_not (pt_chain op_le op_le pe_int (pe_callB call_len_seq (by rfl) T.c.len PySem.boot_len (pa_cons (pv 0) pa_nil)) (pe_glob (v := .int 400) rfl mr ⟨_, rfl⟩)))))) (pss_one (ps_ret pe_bl)) pss_nil)
    (pss_one (ps_ret (pe_callB (cr_all rfl) (by rfl) T.all (by decide +kernel) (pa_cons (pe_lc (own := [("row", 2)]) (g := gName 2) (tt := tYes) rfl scRs.nd (pi_tup (pv 0))
      (blkOk_by (own := [("row", 2)]) (N := ["value", "letters", "row"]) (sc := defScope sRows) (by decide +kernel)) (fun _ _ _ _ _ => pg_name (i := 2) scRs.nd rfl (Or.inl rfl)) (fun _ _ _ _ _ => pts_nil)
      (fun _ _ _ _ _ => pe_call D.ok hr rfl D.m D.kp D.b .nil pass0 (pa_cons (pv 2) (pa_cons (pv 1) (pa_cons (pe_callB (show CallR _ _ (rLenS K) from call_lenS) (by rfl) T.c.len PySem.boot_len (pa_cons (pv 0) pa_nil)) pa_nil))))) pa_nil)))), ?_⟩
  obtain ⟨ti, i1, i2⟩ := is_tuple hd
  refine ⟨_, rfl, _, _, ti, _, _, rfl, .ty _, i1, i2, _, rfl, ?_⟩
  cases hd with
  | @tup a vs ds ha hda =>
    have hl : vs.length = ds.length := hda.length
    have key : ∀ G : Hp, Same H G → Q (.bl (decide (1 ≤ ds.length) && decide (ds.length ≤ 400) && ds.all (rowOk l ds.length))) G := q
    refine iteF ⟨_, rfl, _, _, rfl, .inr (.inl (.inl ha)), _, _, rfl, rfl, _, rfl, ite2 (fun c => ?_) (fun c => ?_)⟩
    · have c1 : 1 ≤ ds.length := by have := of_decide_eq_true c; omega
      refine ⟨_, _, rfl, rfl, _, rfl, ite2 (fun c2 => ?_) (fun c2 => ?_)⟩
      · have c3 : ¬ ds.length ≤ 400 := by
          intro z
          have z' : ((vs.length : Nat) : Int) ≤ 400 := by omega
          rw [decide_eq_true z'] at c2
          cases c2
        have k2 := key H (Same.refl H)
        rw [decide_eq_false c3, Bool.and_false, Bool.false_and] at k2
        exact k2
      · have c3 : ds.length ≤ 400 := by
          refine Classical.byContradiction fun z => c2 ?_
          have z' : ¬ ((vs.length : Nat) : Int) ≤ 400 := by omega
          rw [decide_eq_false z']
          rfl
        refine ⟨_, rfl, _, rfl, ⟨_, .inl (.inl ha)⟩, fun L nL => lc_tup (K := K) (a := a) (xs := vs) (PvB H L (rowOk l ds.length) ds) (b_start nL) (b_stay ha)
          (b_turn nL hda (by rw [hl]; exact hw.len) fun x d G R N hm hs hD k => ?_) fun G h => ?_⟩
        · exact ⟨rfl, _, rfl, _, rfl, _, rfl, a, vs, rfl, .inr (.inl (.inl (hs _ _ ha))), x, d, l, ds.length, by rw [← hl]; rfl, hD, hw.mem hm, k⟩
        · have hb : G L = some (.lst ((ds.map (rowOk l ds.length)).map V.bl)) := by
            rw [h.2, hl, List.take_length, List.map_map]; rfl
          refine ⟨_, _, rfl, .inl (.inl hb), ?_⟩
          have k2 := key G h.1
          rw [decide_eq_true c1, decide_eq_true c3, Bool.true_and, Bool.true_and] at k2
          have e2 : (ds.map (rowOk l ds.length)).all id = ds.all (rowOk l ds.length) := by rw [List.all_map]; rfl
          rw [e2]
          exact k2
    · have c3 : ¬ 1 ≤ ds.length := by
        intro z
        exact c (decide_eq_true (by omega))
      have k2 := key H (Same.refl H)
      rw [decide_eq_false c3, Bool.false_and, Bool.false_and] at k2
      exact ⟨_, rfl, k2⟩
  | int i => exact iteT (q H (Same.refl H))
  | bl b => exact iteT (q H (Same.refl H))
  | non => exact iteT (q H (Same.refl H))
  | str x => exact iteT (q H (Same.refl H))
  | lst _ _ => exact iteT (q H (Same.refl H))
  | dic _ => exact iteT (q H (Same.refl H))
theorem scE : FnScope ["value", "states", "end"] ["value", "states"] (defScope sEnds) := ⟨rfl, rfl, rfl, by decide +kernel, rfl, by decide +kernel, by decide +kernel⟩
theorem ok_ends {f : Addr} {fd : FuncData} (F : Fun K "are_ends" "are_ends" sEnds f fd) (T : Txt mg) : FnOk P w K mg base CX0 1 f fd ["value", "states"] (spEnds K) := by
  refine F.ok scE (fun vs H Q E h => ?_) (fun cdv A outer s H vs Q E hr h => ?_)
  · obtain ⟨v, d, n, rfl, _⟩ := h
    rfl
  obtain ⟨v, d, n, rfl, hd, hw, q⟩ := h
  refine ⟨_, pss_cons (ps_if (PW.pt (pw_or (pt_not (pt_val (pe_callB call_isi (by rfl) T.isi (by decide +kernel) (pa_cons (pv 0) (pa_cons (pe_bltn (v := .ty "tuple") (by rfl) T.c.tuple (by decide +kernel) rfl) pa_nil)))))
      (pw_or1 (pt_cmpR op_ne (pe_callB call_len_seq (by rfl) T.c.len PySem.boot_len (pa_cons (pv 0) pa_nil)) (pv 1) (nomark _))))) (pss_one (ps_ret pe_bl)) pss_nil)
    (pss_one (ps_ret (pe_callB (cr_all rfl) (by rfl) T.all (by decide +kernel) (pa_cons (pe_lc (own := [("end", 2)]) (g := gName 2) (tt := tYes) rfl scE.nd (pi_tup (pv 0))
      (blkOk_by (own := [("end", 2)]) (N := ["value", "states", "end"]) (sc := defScope sEnds) (by decide +kernel)) (fun _ _ _ _ _ => pg_name (i := 2) scE.nd rfl (Or.inl rfl)) (fun _ _ _ _ _ => pts_nil)
      (fun _ _ _ _ _ => pe_callB (show CallR _ _ (rIsi K) from call_isi) (by rfl) T.isi (by decide +kernel) (pa_cons (pv 2) (pa_cons (pe_bltn (v := .ty "bool") (by rfl) T.bool (by decide +kernel) rfl) pa_nil)))) pa_nil)))), ?_⟩
  obtain ⟨ti, i1, i2⟩ := is_tuple hd
  refine ⟨_, rfl, _, _, ti, _, _, rfl, .ty _, i1, i2, _, rfl, ?_⟩
  cases hd with
  | @tup a vs ds ha hda =>
    have hl : vs.length = ds.length := hda.length
    have key : ∀ G : Hp, Same H G → Q (.bl (decide ((ds.length : Int) = n) && ds.all isBl)) G := q
    refine iteF ⟨_, rfl, _, _, rfl, .inr (.inl (.inl ha)), _, rfl, rfl, _, rfl, ite2 (fun c => ?_) (fun c => ?_)⟩
    · have c' : ¬ ((ds.length : Int) = n) := by rw [← hl]; simpa using c
      have k2 := key H (Same.refl H)
      rw [decide_eq_false c', Bool.false_and] at k2
      exact k2
    · have c' : (ds.length : Int) = n := by rw [← hl]; simpa using c
      refine ⟨_, rfl, _, rfl, ⟨_, .inl (.inl ha)⟩, fun L nL => lc_tup (K := K) (a := a) (xs := vs) (PvB H L isBl ds) (b_start nL) (b_stay ha)
        (b_turn nL hda (by rw [hl]; exact hw.len) fun x d G R N hm hs hD k => ?_) fun G h => ?_⟩
      · obtain ⟨tb, b1, b2⟩ := is_bool hD
        exact ⟨rfl, _, rfl, _, _, tb, _, _, rfl, .ty _, b1, b2, k G (Same.refl G)⟩
      · have hb : G L = some (.lst ((ds.map isBl).map V.bl)) := by
          rw [h.2, hl, List.take_length, List.map_map]; rfl
        refine ⟨_, _, rfl, .inl (.inl hb), ?_⟩
        have k2 := key G h.1
        rw [decide_eq_true c', Bool.true_and] at k2
        have e2 : (ds.map isBl).all id = ds.all isBl := by rw [List.all_map]; rfl
        rw [e2]
        exact k2
  | int i => exact iteT (q H (Same.refl H))
  | bl b => exact iteT (q H (Same.refl H))
  | non => exact iteT (q H (Same.refl H))
  | str x => exact iteT (q H (Same.refl H))
  | lst _ _ => exact iteT (q H (Same.refl H))
  | dic _ => exact iteT (q H (Same.refl H))
theorem scM : FnScope ["value", "letters", "rows", "ends"] ["value"] (defScope sMErr) := ⟨rfl, rfl, rfl, by decide +kernel, rfl, by decide +kernel, by decide +kernel⟩
theorem ok_merr {f fN fR fE : Addr} {fd fdN fdR fdE : FuncData} (F : Fun K "machine_error" "machine_error" sMErr f fd) (T : Txt mg) (DN : Dfn P w K mg base "is_number" 1 fN fdN ["value", "low", "high"] (spNumber K))
    (DR : Dfn P w K mg base "are_rows" 3 fR fdR ["value", "letters"] (spRows K)) (DE : Dfn P w K mg base "are_ends" 1 fE fdE ["value", "states"] (spEnds K)) : FnOk P w K mg base CX0 4 f fd ["value"] (spErr K) := by
  refine F.ok scM (fun vs H Q E h => ?_) (fun cdv A outer s H vs Q E hr h => ?_)
  · obtain ⟨v, d, rfl, _⟩ := h
    rfl
  obtain ⟨v, d, rfl, hd, hw, q⟩ := h
  obtain ⟨tk, ml⟩ := T.ml
  have hr1 : Room 1 _ := hr.mono (by decide)
  refine ⟨_, pss_cons (ps_if (PW.pt (pw_or (pt_not (pt_val (pe_callB call_isi (by rfl) T.isi (by decide +kernel) (pa_cons (pv 0) (pa_cons (pe_bltn (v := .ty "tuple") (by rfl) T.c.tuple (by decide +kernel) rfl) pa_nil)))))
      (pw_or1 (pt_cmpR op_ne (pe_callB call_len_seq (by rfl) T.c.len PySem.boot_len (pa_cons (pv 0) pa_nil)) pe_int (nomark _))))) (pss_one (ps_ret pe_str)) pss_nil)
    (pss_cons (ps_asg (pv 0) (pg_tup (by rfl) (pgs_cons (pg_name (i := 1) scM.nd rfl (Or.inl rfl)) (pgs_cons (pg_name (i := 2) scM.nd rfl (Or.inl rfl)) (pgs_cons (pg_name (i := 3) scM.nd rfl (Or.inl rfl)) pgs_nil)))))
    (pss_cons (ps_if (pt_not (pt_val (pe_call DN.ok hr1 rfl DN.m DN.kp DN.b .nil pass0 (pa_cons (pv 1) (pa_cons pe_int (pa_cons (pe_glob (v := .int 4) rfl ml ⟨_, rfl⟩) pa_nil)))))) (pss_one (ps_ret pe_str)) pss_nil)
    (pss_cons (ps_if (pt_not (pt_val (pe_call DR.ok hr rfl DR.m DR.kp DR.b .nil pass0 (pa_cons (pv 2) (pa_cons (pv 1) pa_nil))))) (pss_one (ps_ret pe_str)) pss_nil)
    (pss_cons (ps_if (pt_not (pt_val (pe_call DE.ok hr1 rfl DE.m DE.kp DE.b .nil pass0 (pa_cons (pv 3) (pa_cons (pe_callB call_len_seq (by rfl) T.c.len PySem.boot_len (pa_cons (pv 2) pa_nil)) pa_nil))))) (pss_one (ps_ret pe_str)) pss_nil)
    (pss_one (ps_ret pe_non)))))), ?_⟩
  obtain ⟨ti, i1, i2⟩ := is_tuple hd
  refine ⟨_, rfl, _, _, ti, _, _, rfl, .ty _, i1, i2, _, rfl, ?_⟩
  cases hd with
  | @tup a vs ds ha hda =>
    have hl : vs.length = ds.length := hda.length
    refine iteF ⟨_, rfl, _, _, rfl, .inr (.inl (.inl ha)), rfl, _, rfl, ite2 (fun c => ?_) (fun c => ?_)⟩
    · have c' : ds.length ≠ 3 := by
        intro z
        rw [hl, z] at c
        exact absurd c (by decide)
      have k2 := q H (Same.refl H)
      rw [err_no (fun l r e z => by cases z; exact c' rfl)] at k2
      exact k2
    · have c' : ds.length = 3 := by
        refine Classical.byContradiction fun z => c ?_
        have z' : ¬ (V.int ((vs.length : Nat) : Int) = V.int 3) := fun y => z (by have := V.int.inj y; omega)
        rw [decide_eq_false z']
        rfl
      match ds, vs, c', hda, ha, hw, q with
      | [l, r, e], _, _, .cons (v := vl) h1 (.cons (v := vr) h2 (.cons (v := ve) h3 .nil)), ha, hw, q =>
        have wl : Small l := hw.mem (by simp)
        have wr : Small r := hw.mem (by simp)
        have we : Small e := hw.mem (by simp)
        rw [err_three] at q
        refine ⟨_, rfl, a, _, rfl, .inl (.inl ha), rfl, _, _, rfl, _, _, rfl, _, _, rfl, rfl, ?_⟩
        refine ⟨_, rfl, vl, l, 1, 4, rfl, h1, _, rfl, ?_⟩
        cases c1 : inR 1 4 l with
        | false =>
          have k2 := q H (Same.refl H)
          rw [c1] at k2
          exact k2
        | true =>
          obtain ⟨n, rfl⟩ := inR_int c1
          cases h1
          have q2 : ∀ G, Same H G → Q (if rowsOk n r then (if endsOk (len0 r) e then .non else .str "ends") else .str "rows") G := fun G s => by
            have k2 := q G s
            rw [c1] at k2
            exact k2
          refine ⟨_, rfl, _, rfl, vr, r, n, rfl, h2, wr, fun G s1 => ⟨_, rfl, ?_⟩⟩
          cases c2 : rowsOk n r with
          | false =>
            have k2 := q2 G s1
            rw [c2] at k2
            exact k2
          | true =>
            obtain ⟨rs, rfl⟩ := rowsOk_tup c2
            have h2' := h2
            cases h2 with
            | @tup b us _ hb hub =>
              have hul : us.length = rs.length := hub.length
              refine ⟨_, rfl, _, rfl, b, us, rfl, .inr (.inl (.inl (s1 _ _ hb))), ve, e, rs.length, by rw [← hul]; rfl, h3.same s1, we, fun G2 s2 => ⟨_, rfl, ?_⟩⟩
              have k2 := q2 G2 (s1.trans s2)
              rw [c2] at k2
              have k3 : Q (if endsOk (rs.length : Int) e then .non else .str "ends") G2 := k2
              cases c3 : endsOk (rs.length : Int) e with
              | false => rw [c3] at k3; exact k3
              | true => rw [c3] at k3; exact k3
  | int i => exact iteT (q H (Same.refl H))
  | bl b => exact iteT (q H (Same.refl H))
  | non => exact iteT (q H (Same.refl H))
  | str x => exact iteT (q H (Same.refl H))
  | lst _ _ => exact iteT (q H (Same.refl H))
  | dic _ => exact iteT (q H (Same.refl H))
theorem wkE {K : PySem.W.Frag} {k1 : Kd} {v1 : V} {xs : List V} : Walk (ItE K k1 v1 xs) xs.length (fun H => Src K H k1 v1 xs) (fun i H v H' => ∃ T r, v = .ref T ∧ H T = none ∧ H' = upd H T (.tup r) ∧ rowE xs i = some r) := walk_N
theorem piece_is {l : Nat} {x : Str} : (pieceD l (.str x)).isSome = okP l x := by
  show (if okP l x = true then some x else none).isSome = okP l x
  cases okP l x <;> rfl
theorem cps_take {x : Str} {i c : Nat} (h : x.cps[i]? = some c) : x.cps.toList.take (i + 1) = x.cps.toList.take i ++ [c] := by
  rw [List.take_add_one, Array.getElem?_toList, h]; rfl
theorem scP : FnScope ["letters", "value", "letter"] ["letters", "value"] (defScope sPiece) := ⟨rfl, rfl, rfl, by decide +kernel, rfl, by decide +kernel, by decide +kernel⟩
theorem ok_piece {f : Addr} {fd : FuncData} (F : Fun K "is_piece" "is_piece" sPiece f fd) (T : Txt mg) : FnOk P w K mg base CX0 1 f fd ["letters", "value"] (spPiece K) := by
  refine F.ok scP (fun vs H Q E h => ?_) (fun cdv A outer s H vs Q E hr h => ?_)
  · obtain ⟨l, v, d, rfl, _⟩ := h
    rfl
  obtain ⟨l, v, d, rfl, hd, hw, l1, l4, q⟩ := h
  obtain ⟨tk, mw⟩ := T.mw
  obtain ⟨tk2, lt⟩ := T.lt
  refine ⟨_, pss_cons (ps_if (PW.pt (pw_or (pt_not (pt_val (pe_callB call_isi (by rfl) T.isi (by decide +kernel) (pa_cons (pv 1) (pa_cons (pe_bltn (v := .ty "str") (by rfl) T.str (by decide +kernel) rfl) pa_nil)))))
      (pw_or1 (pt_not (pt_chain op_le op_le pe_int (pe_callB call_len_str (by rfl) T.c.len PySem.boot_len (pa_cons (pv 1) pa_nil)) (pe_glob (v := .int 3) rfl mw ⟨_, rfl⟩)))))) (pss_one (ps_ret pe_bl)) pss_nil)
    (pss_one (ps_ret (pe_callB (cr_all rfl) (by rfl) T.all (by decide +kernel) (pa_cons (pe_lc (own := [("letter", 2)]) (g := gName 2) (tt := tYes) rfl scP.nd (pi_str (pv 1))
      (blkOk_by (own := [("letter", 2)]) (N := ["letters", "value", "letter"]) (sc := defScope sPiece) (by decide +kernel)) (fun _ _ _ _ _ => pg_name (i := 2) scP.nd rfl (Or.inl rfl)) (fun _ _ _ _ _ => pts_nil)
      (fun _ _ _ _ _ => pe_cmpR op_inS (pv 2) (pe_slice sl_str (pe_glob (v := .str "abcd") rfl lt ⟨_, rfl⟩) po_none (po_some (pv 0))) (by rfl))) pa_nil)))), ?_⟩
  obtain ⟨ti, i1, i2⟩ := is_str hd
  refine ⟨_, rfl, _, _, ti, _, _, rfl, .ty _, i1, i2, _, rfl, ?_⟩
  cases hd with
  | str x =>
    have xl := hw.str
    have key : ∀ G, Same H G → Q (.bl (okP l x)) G := fun G s => by
      have k := q G s
      rw [piece_is] at k
      exact k
    refine iteF ⟨_, rfl, _, rfl, by show x.length ≤ 2 ^ 24; omega, _, _, rfl, rfl, _, rfl, ite2 (fun c => ?_) (fun c => ?_)⟩
    · have c1 : 1 ≤ x.length := by have := of_decide_eq_true c; omega
      refine ⟨_, _, rfl, rfl, _, rfl, ite2 (fun c2 => ?_) (fun c2 => ?_)⟩
      · have c3 : ¬ x.length ≤ 3 := by
          intro z
          have z' : ((x.length : Nat) : Int) ≤ 3 := by omega
          rw [decide_eq_true z'] at c2
          cases c2
        have k2 := key H (Same.refl H)
        unfold okP at k2
        rw [decide_eq_false c3, Bool.and_false, Bool.false_and] at k2
        exact k2
      · have c3 : x.length ≤ 3 := by
          refine Classical.byContradiction fun z => c2 ?_
          have z' : ¬ ((x.length : Nat) : Int) ≤ 3 := by omega
          rw [decide_eq_false z']
          rfl
        refine ⟨_, rfl, _, rfl, fun L nL => lc_it (walk_str (z := x)) (fun i G => Same H G ∧ G L = some (.lst ((x.cps.toList.take i).map fun c => V.bl (inA l c))))
          ⟨same_new nL _, by rw [upd_same]; rfl⟩ (fun _ _ _ _ => True.intro) ?_ ?_⟩
        · rintro i y G G' hi ⟨s1, g1⟩ ⟨rfl, c, hc, rfl⟩
          refine ⟨rfl, _, rfl, _, rfl, l, rfl, _, rfl, by decide, c, _, rfl, rfl, _, g1, ?_, same_grow nL s1 _, ?_⟩
          · rw [List.length_map, List.length_take]
            show min i _ < 2 ^ 24
            have : x.cps.size = x.length := rfl
            omega
          · rw [upd_same, cps_take hc, List.map_append, cut_abcd l l1 l4]
            rfl
        · rintro G ⟨s1, g1⟩
          have e1 : x.cps.toList.take x.cps.size = x.cps.toList := by rw [← Array.length_toList, List.take_length]
          rw [e1] at g1
          have g2 : G L = some (.lst ((x.cps.toList.map (inA l)).map V.bl)) := by rw [g1, List.map_map]; rfl
          refine ⟨_, _, rfl, .inl (.inl g2), ?_⟩
          have k2 := key G s1
          unfold okP at k2
          rw [decide_eq_true c1, decide_eq_true c3, Bool.true_and, Bool.true_and] at k2
          have e2 : (x.cps.toList.map (inA l)).all id = x.cps.toList.all (inA l) := by rw [List.all_map]; rfl
          rw [e2]
          exact k2
    · have c3 : ¬ 1 ≤ x.length := by
        intro z
        exact c (decide_eq_true (by omega))
      have k2 := key H (Same.refl H)
      unfold okP at k2
      rw [decide_eq_false c3, Bool.false_and, Bool.false_and] at k2
      exact ⟨_, rfl, k2⟩
  | int i => exact iteT (q H (Same.refl H))
  | bl b => exact iteT (q H (Same.refl H))
  | non => exact iteT (q H (Same.refl H))
  | tup _ _ => exact iteT (q H (Same.refl H))
  | lst _ _ => exact iteT (q H (Same.refl H))
  | dic _ => exact iteT (q H (Same.refl H))
theorem scPr : FnScope ["letters", "value", "one", "other"] ["letters", "value"] (defScope sPair) := ⟨rfl, rfl, rfl, by decide +kernel, rfl, by decide +kernel, by decide +kernel⟩
theorem ok_pair {f fP : Addr} {fd fdP : FuncData} (F : Fun K "is_pair" "is_pair" sPair f fd) (T : Txt mg) (D : Dfn P w K mg base "is_piece" 1 fP fdP ["letters", "value"] (spPiece K)) :
    FnOk P w K mg base CX0 2 f fd ["letters", "value"] (spPair K) := by
  refine F.ok scPr (fun vs H Q E h => ?_) (fun cdv A outer s H vs Q E hr h => ?_)
  · obtain ⟨l, v, d, rfl, _⟩ := h
    rfl
  obtain ⟨l, v, d, rfl, hd, hw, l1, l4, q⟩ := h
  refine ⟨_, pss_cons (ps_if (PW.pt (pw_or (pt_not (pt_val (pe_callB call_isi (by rfl) T.isi (by decide +kernel) (pa_cons (pv 1) (pa_cons (pe_bltn (v := .ty "tuple") (by rfl) T.c.tuple (by decide +kernel) rfl) pa_nil)))))
      (pw_or1 (pt_cmpR op_ne (pe_callB call_len_seq (by rfl) T.c.len PySem.boot_len (pa_cons (pv 1) pa_nil)) pe_int (nomark _))))) (pss_one (ps_ret pe_bl)) pss_nil)
    (pss_cons (ps_asg (pv 1) (pg_tup (by rfl) (pgs_cons (pg_name (i := 2) scPr.nd rfl (Or.inl rfl)) (pgs_cons (pg_name (i := 3) scPr.nd rfl (Or.inl rfl)) pgs_nil))))
    (pss_cons (ps_if (PW.pt (pw_or (pt_not (pt_val (pe_call D.ok hr rfl D.m D.kp D.b .nil pass0 (pa_cons (pv 0) (pa_cons (pv 2) pa_nil)))))
      (pw_or1 (pt_not (pt_val (pe_call D.ok hr rfl D.m D.kp D.b .nil pass0 (pa_cons (pv 0) (pa_cons (pv 3) pa_nil)))))))) (pss_one (ps_ret pe_bl)) pss_nil)
    (pss_one (ps_ret (pe_and (pe_cmpR op_eq (pe_callB call_len_str (by rfl) T.c.len PySem.boot_len (pa_cons (pv 2) pa_nil)) (pe_callB call_len_str (by rfl) T.c.len PySem.boot_len (pa_cons (pv 3) pa_nil)) (nomark _))
      (pe_one (pe_cmpR op_ne (pv 2) (pv 3) (nomark _)))))))), ?_⟩
  obtain ⟨ti, i1, i2⟩ := is_tuple hd
  refine ⟨_, rfl, _, _, ti, _, _, rfl, .ty _, i1, i2, _, rfl, ?_⟩
  cases hd with
  | @tup a vs ds ha hda =>
    have hl : vs.length = ds.length := hda.length
    refine iteF ⟨_, rfl, _, _, rfl, .inr (.inl (.inl ha)), rfl, _, rfl, ite2 (fun c => ?_) (fun c => ?_)⟩
    · have c' : ds.length ≠ 2 := by
        intro z
        rw [hl, z] at c
        exact absurd c (by decide)
      have k2 := q H (Same.refl H)
      rw [pair_no c'] at k2
      exact k2
    · have c' : ds.length = 2 := by
        refine Classical.byContradiction fun z => c ?_
        have z' : ¬ (V.int ((vs.length : Nat) : Int) = V.int 2) := fun y => z (by have := V.int.inj y; omega)
        rw [decide_eq_false z']
        rfl
      match ds, vs, c', hda, ha, hw, q with
      | [x, y], _, _, .cons (v := vx) h1 (.cons (v := vy) h2 .nil), ha, hw, q =>
        have wx : Small x := hw.mem (by simp)
        have wy : Small y := hw.mem (by simp)
        refine ⟨_, rfl, a, _, rfl, .inl (.inl ha), rfl, _, _, rfl, _, _, rfl, rfl, ?_⟩
        have e0 : pairD l (.tuple [x, y]) = match pieceD l x, pieceD l y with | some x, some y => if x.length = y.length ∧ x ≠ y then some (x, y) else none | _, _ => none := rfl
        rw [e0] at q
        refine ⟨_, rfl, _, rfl, l, vx, x, rfl, h1, wx, l1, l4, fun G1 s1 => ⟨_, rfl, ?_⟩⟩
        cases c1 : pieceD l x with
        | none =>
          rw [c1] at q
          exact iteT (q G1 s1)
        | some x' =>
          obtain ⟨rfl, o1⟩ := piece_str c1
          rw [c1] at q
          cases h1
          refine iteF ⟨_, rfl, _, rfl, l, vy, y, rfl, h2.same s1, wy, l1, l4, fun G2 s2 => ⟨_, rfl, ?_⟩⟩
          cases c2 : pieceD l y with
          | none =>
            rw [c2] at q
            exact iteT (q G2 (s1.trans s2))
          | some y' =>
            obtain ⟨rfl, o2⟩ := piece_str c2
            rw [c2] at q
            cases h2
            have k2 := q G2 (s1.trans s2)
            have xl := wx.str
            have yl := wy.str
            have k3 : Q (.bl (if x'.length = y'.length ∧ x' ≠ y' then some (x', y') else none).isSome) G2 := k2
            refine iteF ⟨_, rfl, x', rfl, by show x'.length ≤ 2 ^ 24; omega, _, rfl, y', rfl, by show y'.length ≤ 2 ^ 24; omega, rfl, _, rfl, ite2 (fun c3 => ?_) (fun c3 => ?_)⟩
            · have c4 : x'.length = y'.length := by
                have := V.int.inj (of_decide_eq_true c3)
                omega
              refine ⟨_, rfl, _, rfl, rfl, ?_⟩
              by_cases c5 : x' = y'
              · rw [if_neg (fun z => z.2 c5)] at k3
                have e : (!decide (V.str x' = V.str y')) = false := by rw [c5]; simp
                rw [e]
                exact k3
              · rw [if_pos ⟨c4, c5⟩] at k3
                have e : (!decide (V.str x' = V.str y')) = true := by simp [c5]
                rw [e]
                exact k3
            · have c4 : x'.length ≠ y'.length := fun z => c3 (decide_eq_true (by rw [z]))
              rw [if_neg (fun z => c4 z.1)] at k3
              exact k3
  | int i => exact iteT (q H (Same.refl H))
  | bl b => exact iteT (q H (Same.refl H))
  | non => exact iteT (q H (Same.refl H))
  | str x => exact iteT (q H (Same.refl H))
  | lst _ _ => exact iteT (q H (Same.refl H))
  | dic _ => exact iteT (q H (Same.refl H))
theorem scEr : FnScope ["letters", "value", "taken", "index", "item"] ["letters", "value"] (defScope sRErr) := ⟨rfl, rfl, rfl, by decide +kernel, rfl, by decide +kernel, by decide +kernel⟩
theorem ok_rerr {f fP : Addr} {fd fdP : FuncData} (F : Fun K "rule_error" "rule_error" sRErr f fd) (T : Txt mg) (D : Dfn P w K mg base "is_pair" 2 fP fdP ["letters", "value"] (spPair K)) :
    FnOk P w K mg base CX0 3 f fd ["letters", "value"] (spRErr K) := by
  refine F.ok scEr (fun vs H Q E h => ?_) (fun cdv A outer s H vs Q E hr h => ?_)
  · obtain ⟨l, v, d, rfl, _⟩ := h
    rfl
  obtain ⟨l, v, d, rfl, hd, hw, l1, l4, q⟩ := h
  obtain ⟨tk, mp⟩ := T.mp
  refine ⟨_, pss_cons (ps_if (pt_not (pt_val (pe_callB call_isi (by rfl) T.isi (by decide +kernel) (pa_cons (pv 1) (pa_cons (pe_bltn (v := .ty "tuple") (by rfl) T.c.tuple (by decide +kernel) rfl) pa_nil))))) (pss_one (ps_ret (pe_tup (pa_cons pe_non (pa_cons pe_str pa_nil))))) pss_nil)
    (pss_cons (ps_set (i := 2) scEr.nd rfl (Or.inl rfl) (pe_lst pa_nil))
    (pss_cons (ps_for PassesOwn.never rfl (pi_e rfl T.enum (pa_cons (pv 1) pa_nil)) (pg_tup (by rfl) (pgs_cons (pg_name (i := 3) scEr.nd rfl (Or.inl rfl)) (pgs_cons (pg_name (i := 4) scEr.nd rfl (Or.inl rfl)) pgs_nil)))
      (pss_cons (ps_if (PW.pt (pw_or (pt_not (pt_val (pe_call D.ok hr rfl D.m D.kp D.b .nil pass0 (pa_cons (pv 0) (pa_cons (pv 4) pa_nil)))))
          (pw_or (pt_cmpR op_in_seq (pe_ix ix_tup (pv 4) pe_int (fun _ _ => rfl)) (pv 2) (by rfl)) (pw_or1 (pt_cmpR op_in_seq (pe_ix ix_tup (pv 4) pe_int (fun _ _ => rfl)) (pv 2) (by rfl))))))
        (pss_one (ps_ret (pe_tup (pa_cons (pv 3) (pa_cons pe_str pa_nil))))) pss_nil)
      (pss_one (ps_expr (pe_bm PySem.F.plainAttrs_list PySem.F.slot_list_extend PySem.F.type_list_extend mt_extendT (pv 2) (pa_cons (pv 4) pa_nil))))))
    (pss_cons (ps_if (pt_cmpR op_gt (pe_callB call_len_seq (by rfl) T.c.len PySem.boot_len (pa_cons (pv 1) pa_nil)) (pe_glob (v := .int 6) rfl mp ⟨_, rfl⟩) (nomark _)) (pss_one (ps_ret (pe_tup (pa_cons pe_non (pa_cons pe_str pa_nil))))) pss_nil)
    (pss_one (ps_ret pe_non))))), ?_⟩
  obtain ⟨ti, i1, i2⟩ := is_tuple hd
  refine ⟨_, rfl, _, _, ti, _, _, rfl, .ty _, i1, i2, _, rfl, ?_⟩
  have no : (∀ ds, d ≠ .tuple ds) → ∀ t, H t = none → Q (.ref t) (upd H t (.tup [.non, .str "rule"])) := fun hn t nt => by
    have e : errD l d = .tuple [.none, .str "rule"] := by
      cases d with
      | tuple ds => exact absurd rfl (hn ds)
      | _ => rfl
    exact q _ _ (same_new nt _) (by rw [e]; exact .tup upd_same (.cons .non (.cons (.str _) .nil)))
  cases hd with
  | @tup a vs ds ha hda =>
    have hl : vs.length = ds.length := hda.length
    have dl := hw.len
    refine iteF ⟨by show 0 ≤ 2 ^ 24; decide, fun lf nlf => ?_⟩
    have s0 := same_new nlf (.lst [])
    have g0 : upd H lf (.lst []) lf = some (.lst (([] : List Str).map V.str)) := upd_same
    generalize upd H lf (.lst []) = H1 at s0 g0
    refine ⟨_, rfl, .ref a, .tup, vs, rfl, ⟨a, rfl, .inl (.inl (s0 _ _ ha))⟩, for_it wkE (fun i σ G => ∃ (k3 k4 : Option V) (tk : List Str), σ = [some (.int l), some (.ref a), some (.ref lf), k3, k4] ∧ Same H G ∧ G lf = some (.lst (tk.map V.str)) ∧ tk.length ≤ 2 * i ∧
        walkE l 0 [] ds = walkE l i tk (ds.drop i)) ⟨none, none, [], rfl, s0, g0, Nat.zero_le _, rfl⟩ (fun i σ G _ h => let ⟨_, _, _, _, s, _⟩ := h; ⟨a, rfl, .inl (.inl (s _ _ ha))⟩) ?_ ?_⟩
    · rintro i x σ G G' hi ⟨k3, k4, tk, rfl, sG, gl, tl, we⟩ ⟨Tt, r, rfl, nT, rfl, hr'⟩
      obtain ⟨x, e1, rfl⟩ := rowE_of hr'
      obtain ⟨d1, hd1, hD1⟩ := hda.get e1
      have dr : ds.drop i = d1 :: ds.drop (i + 1) := by
        have il : i < ds.length := by omega
        rw [List.drop_eq_getElem_cons il]
        rw [List.getElem?_eq_getElem il] at hd1
        cases hd1
        rfl
      have sT := same_new nT (.tup [V.int (i : Nat), x])
      have gT : upd G Tt (.tup [V.int (i : Nat), x]) Tt = some (.tup [V.int (i : Nat), x]) := upd_same
      generalize upd G Tt (.tup [V.int (i : Nat), x]) = G1 at sT gT
      have sG1 := sG.trans sT
      refine ⟨Tt, _, rfl, .inl (.inl gT), rfl, _, _, rfl, _, _, rfl, rfl, ?_⟩
      have wd1 : Small d1 := hw.mem (List.mem_of_getElem? hd1)
      have out : walkE l 0 [] ds = some i → ∀ G2, Same H G2 → ∀ t, G2 t = none → Q (.ref t) (upd G2 t (.tup [.int (i : Nat), .str "pair"])) := fun h G2 s2 t nt => by
        have e : errD l (.tuple ds) = .tuple [.int (i : Nat), .str "pair"] := by
          unfold errD
          simp only [h]
        exact q _ _ (s2.trans (same_new nt _)) (by rw [e]; exact .tup upd_same (.cons (.int _) (.cons (.str _) .nil)))
      refine ⟨_, rfl, _, rfl, l, x, d1, rfl, hD1.same sG1, wd1, l1, l4, fun G2 s2 => ⟨_, rfl, ?_⟩⟩
      have sG2 := sG1.trans s2
      have gl2 := s2 _ _ (sT _ _ gl)
      rw [dr] at we
      cases c1 : pairD l d1 with
      | none =>
        have w1 : walkE l 0 [] ds = some i := by
          rw [we]; unfold walkE; rw [c1]
        exact iteT ⟨_, rfl, by show 2 ≤ 2 ^ 24; decide, fun t nt => out w1 G2 sG2 t nt⟩
      | some ab =>
        obtain ⟨a1, b1⟩ := ab
        obtain ⟨rfl, p1, p2, p3, p4⟩ := pair_two c1
        have w1 : walkE l 0 [] ds = if a1 ∈ tk ∨ b1 ∈ tk then some i else walkE l (i + 1) (tk ++ [a1, b1]) (ds.drop (i + 1)) := by
          rw [we]
          show (match pairD l (.tuple [.str a1, .str b1]) with | none => some i | some (x, y) => if x ∈ tk ∨ y ∈ tk then some i else walkE l (i + 1) (tk ++ [x, y]) (ds.drop (i + 1))) = _
          rw [c1]
        cases hD1 with
        | @tup t us _ ht hu =>
        cases hu with
        | cons u1 u2 =>
        cases u2 with
        | cons u2 u3 =>
        cases u3
        cases u1
        cases u2
        have ht2 := sG2 _ _ ht
        refine iteF ⟨_, rfl, t, _, 0, _, rfl, rfl, .inl (.inl ht2), rfl, _, rfl, lf, _, rfl, .inl (.inl (.inl gl2)), rfl, flat_strs tk, _, rfl, ?_⟩
        have isin : ∀ {z : Str}, inV (.str z) (tk.map V.str) = true → z ∈ tk := fun {z} h => by
          rw [inV_strs] at h
          exact of_decide_eq_true h
        have notin : ∀ {z : Str}, ¬ inV (.str z) (tk.map V.str) = true → z ∉ tk := fun {z} h m => by
          rw [inV_strs] at h
          exact h (decide_eq_true m)
        refine ite2 (fun c2 => ?_) (fun c2 => ?_)
        · exact ⟨_, rfl, by show 2 ≤ 2 ^ 24; decide, fun t nt => out (by rw [w1, if_pos (.inl (isin c2))]) G2 sG2 t nt⟩
        refine ⟨_, rfl, t, _, 1, _, rfl, rfl, .inl (.inl ht2), rfl, _, rfl, lf, _, rfl, .inl (.inl (.inl gl2)), rfl, flat_strs tk, _, rfl, ?_⟩
        refine ite2 (fun c3 => ?_) (fun c3 => ?_)
        · exact ⟨_, rfl, by show 2 ≤ 2 ^ 24; decide, fun t nt => out (by rw [w1, if_pos (.inr (isin c3))]) G2 sG2 t nt⟩
        rw [if_neg (fun z => z.elim (notin c2) (notin c3))] at w1
        refine ⟨_, rfl, .inl ⟨rfl, _, .inl (.inl gl2)⟩, _, rfl, lf, t, _, _, rfl, rfl, gl2, ht2, by rw [List.length_map]; show _ + 2 ≤ 2 ^ 24; omega, ?_⟩
        exact ⟨_, _, tk ++ [a1, b1], rfl, same_grow nlf sG2 _, by rw [upd_same, List.map_append]; rfl, by rw [List.length_append]; show _ + 2 ≤ _; omega, w1⟩
    · rintro σ G ⟨k3, k4, tk, rfl, sG, gl, tl, we⟩
      rw [hl, List.drop_length] at we
      have we' : walkE l 0 [] ds = none := we
      refine ⟨_, rfl, a, vs, rfl, .inr (.inl (.inl (sG _ _ ha))), _, _, rfl, rfl, _, rfl, ite2 (fun c => ?_) (fun c => ?_)⟩
      · have c6 : 6 < ds.length := by have := of_decide_eq_true c; omega
        refine ⟨by show 2 ≤ 2 ^ 24; decide, fun t nt => ?_⟩
        have e : errD l (.tuple ds) = .tuple [.none, .str "many"] := by
          unfold errD
          simp only [we', if_pos c6]
        exact q _ _ (sG.trans (same_new nt _)) (by rw [e]; exact .tup upd_same (.cons .non (.cons (.str _) .nil)))
      · have c6 : ¬ 6 < ds.length := fun z => c (decide_eq_true (by omega))
        have e : errD l (.tuple ds) = .none := by
          unfold errD
          simp only [we', if_neg c6]
        exact q _ _ sG (by rw [e]; exact .non)
  | int i => exact iteT ⟨by show 2 ≤ 2 ^ 24; decide, fun t nt => no (fun _ z => nomatch z) t nt⟩
  | bl b => exact iteT ⟨by show 2 ≤ 2 ^ 24; decide, fun t nt => no (fun _ z => nomatch z) t nt⟩
  | non => exact iteT ⟨by show 2 ≤ 2 ^ 24; decide, fun t nt => no (fun _ z => nomatch z) t nt⟩
  | str x => exact iteT ⟨by show 2 ≤ 2 ^ 24; decide, fun t nt => no (fun _ z => nomatch z) t nt⟩
  | lst _ _ => exact iteT ⟨by show 2 ≤ 2 ^ 24; decide, fun t nt => no (fun _ z => nomatch z) t nt⟩
  | dic _ => exact iteT ⟨by show 2 ≤ 2 ^ 24; decide, fun t nt => no (fun _ z => nomatch z) t nt⟩
end
end K17
namespace K17
open PySem GL GZ KW KR GU KU
open L2 hiding isNon
open KC hiding rLenS call_lenS
open KX (Small pieceD pairD walkE errD okP inA ab piece_str pair_two pair_no inV_strs flat_strs)
abbrev sSigns : Stmt := top 17
abbrev sSErr : Stmt := top 18
def signsOk (l : Int) : PyData → Bool
  | .str x => decide ((x.length : Int) = l) && x.cps.toList.all fun c => decide (c ∈ ("+-" : Str).cps.toList)
  | _ => false
def nStates : PyData → Nat
  | .tuple [_, .tuple rs, _] => rs.length
  | _ => 0
def nLetters : PyData → Int
  | .tuple [.int l, _, _] => l
  | _ => 0
def serr : PyData → PyData
  | .tuple [k, s, r] => match err k with
    | .str e => .tuple [.str "kind", .str e]
    | _ => if 8 < nStates k then .tuple [.str "kind", .str "states"] else if signsOk (nLetters k) s then (match errD (nLetters k).toNat r with | .none => .none | e => .tuple [.str "rule", e]) else .tuple [.str "signs", .none]
  | _ => .tuple [.str "scheme", .none]
theorem serr_no {d : PyData} (h : ∀ l r e, d ≠ .tuple [l, r, e]) : serr d = .tuple [.str "scheme", .none] := by
  unfold serr
  split
  · exact absurd rfl (h _ _ _)
  · rfl
theorem err_is (k : PyData) : (err k = .non ∧ ∃ n rs e, k = .tuple [.int n, .tuple rs, e] ∧ 1 ≤ n ∧ n ≤ 4) ∨ ∃ e, err k = .str e := by
  by_cases h3 : ∃ l r e, k = .tuple [l, r, e]
  · obtain ⟨l, r, e, rfl⟩ := h3
    rw [err_three]
    cases c1 : inR 1 4 l with
    | false => exact .inr ⟨_, rfl⟩
    | true =>
      obtain ⟨n, rfl⟩ := inR_int c1
      cases c2 : rowsOk n r with
      | false => exact .inr ⟨"rows", by simp [c2]⟩
      | true =>
        obtain ⟨rs, rfl⟩ := rowsOk_tup c2
        cases c3 : endsOk (len0 (.tuple rs)) e with
        | false => exact .inr ⟨"ends", by simp [c2, c3]⟩
        | true =>
          refine .inl ⟨by simp [c2, c3], n, rs, e, rfl, ?_⟩
          simp only [inR, Bool.and_eq_true, decide_eq_true_eq] at c1
          exact c1
  · refine .inr ⟨"machine", err_no fun l r e z => h3 ⟨l, r, e, z⟩⟩
def spASigns (K : PySem.W.Frag) : Sp := fun vs H Q _ => ∃ (v : V) (d : PyData) (l : Int), vs = [v, .int l] ∧ Du K H v d ∧ Small d ∧ ∀ G, Same H G → Q (.bl (signsOk l d)) G
def spSErr (K : PySem.W.Frag) : Sp := fun vs H Q _ => ∃ (v : V) (d : PyData), vs = [v] ∧ Du K H v d ∧ Small d ∧ ∀ v' G, Same H G → Dt K G v' (serr d) → Q v' G
section
variable {P : Program} {w : World} {K : PySem.W.Frag} {mg : Str → Option Value} {base : Heap}
theorem scAS : FnScope ["value", "letters", "sign"] ["value", "letters"] (defScope sSigns) := ⟨rfl, rfl, rfl, by decide +kernel, rfl, by decide +kernel, by decide +kernel⟩
theorem ok_asigns {f : Addr} {fd : FuncData} (F : Fun K "are_signs" "are_signs" sSigns f fd) (T : Txt mg) : FnOk P w K mg base CX0 1 f fd ["value", "letters"] (spASigns K) := by
  refine F.ok scAS (fun vs H Q E h => ?_) (fun cdv A outer s H vs Q E hr h => ?_)
  · obtain ⟨v, d, l, rfl, _⟩ := h
    rfl
  obtain ⟨v, d, l, rfl, hd, hw, q⟩ := h
  refine ⟨_, pss_one (ps_ret (pe_and (pe_callB call_isi (by rfl) T.isi (by decide +kernel) (pa_cons (pv 0) (pa_cons (pe_bltn (v := .ty "str") (by rfl) T.str (by decide +kernel) rfl) pa_nil)))
    (pe_and (pe_cmpR op_eq (pe_callB call_len_str (by rfl) T.c.len PySem.boot_len (pa_cons (pv 0) pa_nil)) (pv 1) (nomark _))
    (pe_one (pe_callB (cr_all rfl) (by rfl) T.all (by decide +kernel) (pa_cons (pe_lc (own := [("sign", 2)]) (g := gName 2) (tt := tYes) rfl scAS.nd (pi_str (pv 0))
      (blkOk_by (own := [("sign", 2)]) (N := ["value", "letters", "sign"]) (sc := defScope sSigns) (by decide +kernel)) (fun _ _ _ _ _ => pg_name (i := 2) scAS.nd rfl (Or.inl rfl)) (fun _ _ _ _ _ => pts_nil)
      (fun _ _ _ _ _ => pe_cmpR op_inS (pv 2) pe_str (by rfl))) pa_nil)))))), ?_⟩
  obtain ⟨ti, i1, i2⟩ := is_str hd
  refine ⟨_, rfl, _, _, ti, _, _, rfl, .ty _, i1, i2, _, rfl, ?_⟩
  cases hd with
  | str x =>
    have xl := hw.str
    refine iteT ⟨_, rfl, _, rfl, by show x.length ≤ 2 ^ 24; omega, _, rfl, rfl, _, rfl, ite2 (fun c => ?_) (fun c => ?_)⟩
    · have c1 : (x.length : Int) = l := V.int.inj (of_decide_eq_true c)
      refine ⟨_, rfl, _, rfl, fun L nL => lc_it (walk_str (z := x)) (fun i G => Same H G ∧ G L = some (.lst ((x.cps.toList.take i).map fun c => V.bl (decide (c ∈ ("+-" : Str).cps.toList)))))
        ⟨same_new nL _, by rw [upd_same]; rfl⟩ (fun _ _ _ _ => True.intro) ?_ ?_⟩
      · rintro i y G G' hi ⟨s1, g1⟩ ⟨rfl, c, hc, rfl⟩
        refine ⟨rfl, _, rfl, c, _, rfl, rfl, _, g1, ?_, same_grow nL s1 _, ?_⟩
        · rw [List.length_map, List.length_take]
          show min i _ < 2 ^ 24
          have : x.cps.size = x.length := rfl
          omega
        · rw [upd_same, cps_take hc, List.map_append]
          rfl
      · rintro G ⟨s1, g1⟩
        have e1 : x.cps.toList.take x.cps.size = x.cps.toList := by rw [← Array.length_toList, List.take_length]
        rw [e1] at g1
        have g2 : G L = some (.lst ((x.cps.toList.map fun c => decide (c ∈ ("+-" : Str).cps.toList)).map V.bl)) := by rw [g1, List.map_map]; rfl
        refine ⟨_, _, rfl, .inl (.inl g2), ?_⟩
        have k2 := q G s1
        have e2 : signsOk l (.str x) = (x.cps.toList.map fun c => decide (c ∈ ("+-" : Str).cps.toList)).all id := by
          show (decide ((x.length : Int) = l) && _) = _
          rw [decide_eq_true c1, Bool.true_and, List.all_map]; rfl
        rw [e2] at k2
        exact k2
    · have c1 : ¬ (x.length : Int) = l := fun z => c (by rw [z]; exact decide_eq_true rfl)
      have k2 := q H (Same.refl H)
      have e2 : signsOk l (.str x) = false := by
        show (decide ((x.length : Int) = l) && _) = _
        rw [decide_eq_false c1, Bool.false_and]
      rw [e2] at k2
      exact k2
  | int i => exact iteF (q H (Same.refl H))
  | bl b => exact iteF (q H (Same.refl H))
  | non => exact iteF (q H (Same.refl H))
  | tup _ _ => exact iteF (q H (Same.refl H))
  | lst _ _ => exact iteF (q H (Same.refl H))
  | dic _ => exact iteF (q H (Same.refl H))
theorem scSE : FnScope ["value", "kind", "signs", "rule", "error"] ["value"] (defScope sSErr) := ⟨rfl, rfl, rfl, by decide +kernel, rfl, by decide +kernel, by decide +kernel⟩
theorem ok_serr {f fM fA fR : Addr} {fd fdM fdA fdR : FuncData} (F : Fun K "scheme_error" "scheme_error" sSErr f fd) (T : Txt mg) (DM : Dfn P w K mg base "machine_error" 4 fM fdM ["value"] (spErr K))
    (DA : Dfn P w K mg base "are_signs" 1 fA fdA ["value", "letters"] (spASigns K)) (DR : Dfn P w K mg base "rule_error" 3 fR fdR ["letters", "value"] (spRErr K)) : FnOk P w K mg base CX0 5 f fd ["value"] (spSErr K) := by
  refine F.ok scSE (fun vs H Q E h => ?_) (fun cdv A outer s H vs Q E hr h => ?_)
  · obtain ⟨v, d, rfl, _⟩ := h
    rfl
  obtain ⟨v, d, rfl, hd, hw, q⟩ := h
  obtain ⟨tk, ms⟩ := T.ms
  have hr1 : Room 1 _ := hr.mono (by decide)
  have hr3 : Room 3 _ := hr.mono (by decide)
  refine ⟨_, pss_cons (ps_if (PW.pt (pw_or (pt_not (pt_val (pe_callB call_isi (by rfl) T.isi (by decide +kernel) (pa_cons (pv 0) (pa_cons (pe_bltn (v := .ty "tuple") (by rfl) T.c.tuple (by decide +kernel) rfl) pa_nil)))))
      (pw_or1 (pt_cmpR op_ne (pe_callB call_len_seq (by rfl) T.c.len PySem.boot_len (pa_cons (pv 0) pa_nil)) pe_int (nomark _))))) (pss_one (ps_ret (pe_tup (pa_cons pe_str (pa_cons pe_non pa_nil))))) pss_nil)
    (pss_cons (ps_asg (pv 0) (pg_tup (by rfl) (pgs_cons (pg_name (i := 1) scSE.nd rfl (Or.inl rfl)) (pgs_cons (pg_name (i := 2) scSE.nd rfl (Or.inl rfl)) (pgs_cons (pg_name (i := 3) scSE.nd rfl (Or.inl rfl)) pgs_nil)))))
    (pss_cons (ps_set (i := 4) scSE.nd rfl (Or.inl rfl) (pe_call DM.ok hr rfl DM.m DM.kp DM.b .nil pass0 (pa_cons (pv 1) pa_nil)))
    (pss_cons (ps_if (PW.pt (pw_and (pt_cmpR op_isN (pv 4) pe_non (nomark _)) (pw_and1 (pt_cmpR op_gt (pe_callB call_len_seq (by rfl) T.c.len PySem.boot_len (pa_cons (pe_ix ix_tup (pv 1) pe_int (fun _ _ => rfl)) pa_nil)) (pe_glob (v := .int 8) rfl ms ⟨_, rfl⟩) (nomark _)))))
      (pss_one (ps_set (i := 4) scSE.nd rfl (Or.inl rfl) pe_str)) pss_nil)
    (pss_cons (ps_if (pt_cmpR op_notN (pv 4) pe_non (nomark _)) (pss_one (ps_ret (pe_tup (pa_cons pe_str (pa_cons (pv 4) pa_nil))))) pss_nil)
    (pss_cons (ps_if (pt_not (pt_val (pe_call DA.ok hr1 rfl DA.m DA.kp DA.b .nil pass0 (pa_cons (pv 2) (pa_cons (pe_ix ix_tup (pv 1) pe_int (fun _ _ => rfl)) pa_nil))))) (pss_one (ps_ret (pe_tup (pa_cons pe_str (pa_cons pe_non pa_nil))))) pss_nil)
    (pss_cons (ps_set (i := 4) scSE.nd rfl (Or.inl rfl) (pe_call DR.ok hr3 rfl DR.m DR.kp DR.b .nil pass0 (pa_cons (pe_ix ix_tup (pv 1) pe_int (fun _ _ => rfl)) (pa_cons (pv 3) pa_nil))))
    (pss_one (ps_ret (pe_ifExp (pt_cmpR op_isN (pv 4) pe_non (nomark _)) pe_non (pe_tup (pa_cons pe_str (pa_cons (pv 4) pa_nil)))))))))))), ?_⟩
  obtain ⟨ti, i1, i2⟩ := is_tuple hd
  refine ⟨_, rfl, _, _, ti, _, _, rfl, .ty _, i1, i2, _, rfl, ?_⟩
  have no : serr d = .tuple [.str "scheme", .none] → ∀ t, H t = none → Q (.ref t) (upd H t (.tup [.str "scheme", .non])) := fun e t nt =>
    q _ _ (same_new nt _) (by rw [e]; exact .tup upd_same (.cons (.str _) (.cons .non .nil)))
  cases hd with
  | @tup a vs ds ha hda =>
    have hl : vs.length = ds.length := hda.length
    refine iteF ⟨_, rfl, _, _, rfl, .inr (.inl (.inl ha)), rfl, _, rfl, ite2 (fun c => ?_) (fun c => ?_)⟩
    · have c' : ds.length ≠ 3 := by
        intro z
        rw [hl, z] at c
        exact absurd c (by decide)
      exact ⟨by show 2 ≤ 2 ^ 24; decide, fun t nt => no (serr_no fun l r e z => by cases z; exact c' rfl) t nt⟩
    · have c' : ds.length = 3 := by
        refine Classical.byContradiction fun z => c ?_
        have z' : ¬ (V.int ((vs.length : Nat) : Int) = V.int 3) := fun y => z (by have := V.int.inj y; omega)
        rw [decide_eq_false z']
        rfl
      match ds, vs, c', hda, ha, hw, q with
      | [k, sg, r], _, _, .cons (v := vk) h1 (.cons (v := vs) h2 (.cons (v := vr) h3 .nil)), ha, hw, q =>
        have wk : Small k := hw.mem (by simp)
        have ws : Small sg := hw.mem (by simp)
        have wr : Small r := hw.mem (by simp)
        refine ⟨_, rfl, a, _, rfl, .inl (.inl ha), rfl, _, _, rfl, _, _, rfl, _, _, rfl, rfl, ?_⟩
        refine ⟨_, rfl, vk, k, rfl, h1, wk, fun G1 s1 => ?_⟩
        rcases err_is k with ⟨e0, n, rs, es, rfl, n1, n4⟩ | ⟨e, e0⟩
        · rw [e0]
          have h1' := h1
          cases h1 with
          | @tup b us _ hb hub =>
          cases hub with
          | cons u1 u2 =>
          cases u2 with
          | cons u2 u3 =>
          cases u3 with
          | cons u3 u4 =>
          cases u4
          cases u1
          cases u2 with
          | @tup rA rus _ hrA hrus =>
          have rl : rus.length = rs.length := hrus.length
          have es : serr (.tuple [.tuple [.int n, .tuple rs, es], sg, r]) = if 8 < rs.length then .tuple [.str "kind", .str "states"] else if signsOk n sg then (match errD n.toNat r with | .none => .none | e => .tuple [.str "rule", e]) else .tuple [.str "signs", .none] := by
            unfold serr
            simp only [e0]
            rfl
          refine ⟨_, rfl, rfl, _, rfl, ite2 (fun _ => ?_) (fun c => absurd (decide_eq_true rfl) c)⟩
          refine ⟨_, rfl, b, _, 1, _, rfl, rfl, .inl (.inl (s1 _ _ hb)), rfl, rA, rus, rfl, .inr (.inl (.inl (s1 _ _ hrA))), _, _, rfl, rfl, _, rfl, ite2 (fun c8 => ?_) (fun c8 => ?_)⟩
          · have r8 : 8 < rs.length := by have := of_decide_eq_true c8; omega
            refine ⟨_, rfl, rfl, _, rfl, ite2 (fun _ => ?_) (fun c => absurd rfl c)⟩
            exact ⟨_, rfl, by show 2 ≤ 2 ^ 24; decide, fun t nt => q _ _ (s1.trans (same_new nt _)) (by rw [es, if_pos r8]; exact .tup upd_same (.cons (.str _) (.cons (.str _) .nil)))⟩
          · have r8 : ¬ 8 < rs.length := fun z => c8 (decide_eq_true (by omega))
            rw [es, if_neg r8] at q
            refine ⟨_, rfl, rfl, _, rfl, ite2 (fun c => absurd c (by simp)) (fun _ => ?_)⟩
            refine ⟨_, rfl, _, rfl, b, _, 0, _, rfl, rfl, .inl (.inl (s1 _ _ hb)), rfl, vs, sg, n, rfl, h2.same s1, ws, fun G2 s2 => ⟨_, rfl, ?_⟩⟩
            have s12 := s1.trans s2
            cases c9 : signsOk n sg with
            | false =>
              rw [c9] at q
              exact iteT ⟨by show 2 ≤ 2 ^ 24; decide, fun t nt => q _ _ (s12.trans (same_new nt _)) (.tup upd_same (.cons (.str _) (.cons .non .nil)))⟩
            | true =>
              rw [c9, if_pos rfl] at q
              obtain ⟨l, rfl⟩ : ∃ l : Nat, n = (l : Int) := ⟨n.toNat, by omega⟩
              rw [Int.toNat_natCast] at q
              refine iteF ⟨_, rfl, b, _, 0, _, rfl, rfl, .inl (.inl (s12 _ _ hb)), rfl, _, rfl, l, vr, r, rfl, h3.same s12, wr, by omega, by omega, fun v' G3 s3 hv => ?_⟩
              have s123 := s12.trans s3
              refine ⟨_, rfl, rfl, _, rfl, ite2 (fun c => ?_) (fun c => ?_)⟩
              · have c' : v' = .non := of_decide_eq_true c
                subst c'
                generalize hE : errD l r = eD at q hv
                cases hv
                exact q _ _ s123 .non
              · have c' : v' ≠ .non := fun z => c (decide_eq_true z)
                refine ⟨_, rfl, by show 2 ≤ 2 ^ 24; decide, fun t nt => ?_⟩
                have sT := s123.trans (same_new nt (.tup [.str "rule", v']))
                generalize hE : errD l r = eD at q hv
                refine q _ _ sT ?_
                have hv' := hv.same (same_new nt (.tup [.str "rule", v']))
                cases hv with
                | non => exact absurd rfl c'
                | bl _ => exact .tup upd_same (.cons (.str _) (.cons hv' .nil))
                | int _ => exact .tup upd_same (.cons (.str _) (.cons hv' .nil))
                | str _ => exact .tup upd_same (.cons (.str _) (.cons hv' .nil))
                | lst _ _ => exact .tup upd_same (.cons (.str _) (.cons hv' .nil))
                | tup _ _ => exact .tup upd_same (.cons (.str _) (.cons hv' .nil))
                | dic _ => exact .tup upd_same (.cons (.str _) (.cons hv' .nil))
        · rw [e0]
          have es : serr (.tuple [k, sg, r]) = .tuple [.str "kind", .str e] := by
            unfold serr
            simp only [e0]
          refine ⟨_, rfl, rfl, _, rfl, ite2 (fun c => absurd (of_decide_eq_true c) (by simp)) (fun _ => ?_)⟩
          refine ⟨_, rfl, rfl, _, rfl, ite2 (fun _ => ?_) (fun c => absurd rfl c)⟩
          exact ⟨_, rfl, by show 2 ≤ 2 ^ 24; decide, fun t nt => q _ _ (s1.trans (same_new nt _)) (by rw [es]; exact .tup upd_same (.cons (.str _) (.cons (.str _) .nil)))⟩
  | int i => exact iteT ⟨by show 2 ≤ 2 ^ 24; decide, fun t nt => no rfl t nt⟩
  | bl b => exact iteT ⟨by show 2 ≤ 2 ^ 24; decide, fun t nt => no rfl t nt⟩
  | non => exact iteT ⟨by show 2 ≤ 2 ^ 24; decide, fun t nt => no rfl t nt⟩
  | str x => exact iteT ⟨by show 2 ≤ 2 ^ 24; decide, fun t nt => no rfl t nt⟩
  | lst _ _ => exact iteT ⟨by show 2 ≤ 2 ^ 24; decide, fun t nt => no rfl t nt⟩
  | dic _ => exact iteT ⟨by show 2 ≤ 2 ^ 24; decide, fun t nt => no rfl t nt⟩
end
end K17
namespace K17
open PySem GL GZ KW KR GU KU
open L2 hiding isNon
open KC hiding rLenS call_lenS
open KX (Small pieceD pairD walkE errD okP inA ab piece_str pair_two pair_no inV_strs flat_strs op_eqL0)
abbrev sLNum : Stmt := top 30
abbrev sLRow : Stmt := top 31
abbrev sLMErr : Stmt := top 32
def rNe0 : R2 := fun x y H Q => ∃ (a b : Addr) (xs : List V), x = .ref a ∧ y = .ref b ∧ H a = some (.lst xs) ∧ H b = some (.lst []) ∧ Q (.bl (!xs.isEmpty)) H
theorem op_ne0 {X : Cx} (hu : X.A.units < cLine) : OpR X (compareOp .NotEq) rNe0 := by
  intro pins s σ H x y v u Q I rx ry h
  obtain ⟨a, b, xs, rfl, rfl, ha, hb, q⟩ := h
  cases rx
  cases ry
  obtain ⟨its, n, rv, e⟩ := lst_at I ha
  obtain ⟨its2, n2, rv2, e2⟩ := lst_at I hb
  cases rv2
  have l1 : s.heap.IsList a its.toArray := ⟨_, e, rfl, n, rfl⟩
  have l2 : s.heap.IsList b ([] : List Value).toArray := ⟨_, e2, rfl, n2, rfl⟩
  cases its with
  | nil =>
    cases rv
    exact SeqAt.RcNeAt.lists (e := fun _ => true) l1 l2 rfl hu (fun j h1 _ => absurd h1 (Nat.not_lt_zero j)) X.prog X.w _ _ ⟨.bl false, H, I, rfl, q⟩
  | cons y ys =>
    cases rv with
    | cons r1 r2 => exact SeqAt.RcNeAt.lists_lengths l1 l2 rfl hu X.prog X.w _ _ ⟨.bl true, H, I, rfl, q⟩
section
variable {P : Program} {w : World} {K : PySem.W.Frag} {mg : Str → Option Value} {base : Heap}
theorem scLN : FnScope ["_law_value", "_law_least", "_law_most"] ["_law_value", "_law_least", "_law_most"] (defScope sLNum) := ⟨rfl, rfl, rfl, by decide +kernel, rfl, by decide +kernel, by decide +kernel⟩
theorem ok_lnum {f : Addr} {fd : FuncData} (F : Fun K "_law_is_number" "_law_is_number" sLNum f fd) (T : Txt mg) : FnOk P w K mg base CX0 1 f fd ["_law_value", "_law_least", "_law_most"] (spNumber K) := by
  refine F.ok scLN (fun vs H Q E h => ?_) (fun cdv A outer s H vs Q E hr h => ?_)
  · obtain ⟨v, d, lo, hi, rfl, _⟩ := h
    rfl
  obtain ⟨v, d, lo, hi, rfl, hd, q⟩ := h
  refine ⟨_, pss_one (ps_ret (pe_and (pe_callB call_isi (by rfl) T.isi (by decide +kernel) (pa_cons (pv 0) (pa_cons (pe_bltn (v := .ty "int") (by rfl) T.c.int (by decide +kernel) rfl) pa_nil)))
    (pe_and (pe_not (pe_callB call_isi (by rfl) T.isi (by decide +kernel) (pa_cons (pv 0) (pa_cons (pe_bltn (v := .ty "bool") (by rfl) T.bool (by decide +kernel) rfl) pa_nil))))
    (pe_one (pe_chain op_le op_le (pv 1) (pv 0) (pv 2)))))), ?_⟩
  obtain ⟨ti, i1, i2⟩ := is_int hd
  obtain ⟨tb, b1, b2⟩ := is_bool hd
  refine ⟨_, rfl, _, _, ti, _, _, rfl, .ty _, i1, i2, _, rfl, ?_⟩
  cases hd with
  | int i =>
    refine iteT ⟨_, rfl, _, _, tb, _, _, rfl, .ty _, b1, b2, _, rfl, _, rfl, iteT ⟨_, rfl, _, rfl, _, _, rfl, rfl, _, rfl, ite2 (fun c => ?_) (fun c => ?_)⟩⟩
    · refine ⟨_, rfl, _, _, rfl, rfl, ?_⟩
      have e : inR lo hi (.int i) = decide (i ≤ hi) := by
        show (decide (lo ≤ i) && decide (i ≤ hi)) = _
        rw [c]; rfl
      show Q (.bl (decide (i ≤ hi))) H
      rw [← e]; exact q
    · have e : inR lo hi (.int i) = false := by
        show (decide (lo ≤ i) && decide (i ≤ hi)) = _
        rw [Bool.eq_false_iff.mpr c]; rfl
      show Q (.bl false) H
      rw [← e]; exact q
  | bl b => exact iteT ⟨_, rfl, _, _, tb, _, _, rfl, .ty _, b1, b2, _, rfl, _, rfl, iteF q⟩
  | non => exact iteF q
  | str x => exact iteF q
  | lst _ _ => exact iteF q
  | tup _ _ => exact iteF q
  | dic _ => exact iteF q

theorem scLRw : FnScope ["_law_value", "_law_letters", "_law_many", "_law_item"] ["_law_value", "_law_letters", "_law_many"] (defScope sLRow) := ⟨rfl, rfl, rfl, by decide +kernel, rfl, by decide +kernel, by decide +kernel⟩
theorem ok_lrow {f fW : Addr} {fd fdW : FuncData} (F : Fun K "_law_is_row" "_law_is_row" sLRow f fd) (T : Txt mg) (D : Dfn P w K mg base "_law_is_number" 1 fW fdW ["_law_value", "_law_least", "_law_most"] (spNumber K)) :
    FnOk P w K mg base CX0 2 f fd ["_law_value", "_law_letters", "_law_many"] (spRow K) := by
  refine F.ok scLRw (fun vs H Q E h => ?_) (fun cdv A outer s H vs Q E hr h => ?_)
  · obtain ⟨v, d, l, n, rfl, _⟩ := h
    rfl
  obtain ⟨v, d, l, n, rfl, hd, hw, q⟩ := h
  refine ⟨_, pss_cons (ps_if (PW.pt (pw_or (pt_not (pt_val (pe_callB call_isi (by rfl) T.isi (by decide +kernel) (pa_cons (pv 0) (pa_cons (pe_bltn (v := .ty "tuple") (by rfl) T.c.tuple (by decide +kernel) rfl) pa_nil)))))
      (pw_or1 (pt_cmpR op_ne (pe_callB call_len_seq (by rfl) T.c.len PySem.boot_len (pa_cons (pv 0) pa_nil)) (pv 1) (nomark _))))) (pss_one (ps_ret pe_bl)) pss_nil)
    (pss_one (ps_ret (pe_cmpR (op_eqL0 hr.units0) (pe_lc (own := [("_law_item", 3)]) (g := gName 3) rfl scLRw.nd (pi_tup (pv 0))
          (blkOk_by (own := [("_law_item", 3)]) (N := ["_law_value", "_law_letters", "_law_many", "_law_item"]) (sc := defScope sLRow) (by decide +kernel)) (fun _ _ _ _ _ => pg_name (i := 3) scLRw.nd rfl (Or.inl rfl))
          (fun _ _ _ _ _ => pts_one (PW.pt (pw_and (pt_cmpR op_notN (pv 3) pe_non (nomark _)) (pw_and1 (pt_not (pt_val (pe_call D.ok hr rfl D.m D.kp D.b .nil pass0 (pa_cons (pv 3) (pa_cons pe_int (pa_cons (pe_op op_sub (pv 2) pe_int) pa_nil)))))))))
          ) (fun _ _ _ _ _ => pv 3)) (pe_lst pa_nil) (nomark _)))), ?_⟩
  obtain ⟨ti, i1, i2⟩ := is_tuple hd
  refine ⟨_, rfl, _, _, ti, _, _, rfl, .ty _, i1, i2, _, rfl, ?_⟩
  cases hd with
  | @tup b us xs hb hus =>
    have hul : us.length = xs.length := hus.length
    refine iteF ⟨_, rfl, _, _, rfl, .inr (.inl (.inl hb)), _, rfl, rfl, _, rfl, ite2 (fun c4 => ?_) (fun c4 => ?_)⟩
    · have c5 : ¬ ((xs.length : Int) = l) := by rw [← hul]; simpa using c4
      have e : rowOk l n (.tuple xs) = false := by show (decide ((xs.length : Int) = l) && _) = false; rw [decide_eq_false c5]; rfl
      rw [e] at q
      exact q H (Same.refl H)
    · have c5 : (xs.length : Int) = l := by rw [← hul]; simpa using c4
      have hrow : rowOk l n (.tuple xs) = xs.all fun d => isNon d || inR 0 (n - 1) d := by
        show (decide ((xs.length : Int) = l) && _) = _
        rw [decide_eq_true c5]; rfl
      rw [hrow] at q
      have zl : xs.length ≤ 1000000 := hw.len
      refine ⟨_, rfl, b, rfl, ⟨_, .inl (.inl hb)⟩, fun L nL => lc_tup (K := K) (a := b) (xs := us) (fun j G2 => Same H G2 ∧ ∃ acc : List V, G2 L = some (.lst acc) ∧ acc.length ≤ j ∧
          acc.isEmpty = ((xs.take j).all fun d => isNon d || inR 0 (n - 1) d)) ⟨same_new nL _, [], upd_same, Nat.le_refl _, rfl⟩ (fun j G2 _ h => .inl (.inl (h.1 _ _ hb))) ?_ ?_⟩
      · rintro j y G2 hy ⟨s2, acc, a1, a2, a3⟩
        obtain ⟨dy, y1, hDy'⟩ := DuAll.get hus hy
        have hDy := hDy'.same s2
        have jl : j < xs.length := (List.getElem?_eq_some_iff.mp y1).1
        have tk : (xs.take (j + 1)).all (fun d => isNon d || inR 0 (n - 1) d) = (acc.isEmpty && (isNon dy || inR 0 (n - 1) dy)) := by
          rw [List.take_add_one, y1, List.all_append, ← a3]
          simp
        refine ⟨rfl, ?_⟩
        have drop : ∀ b, b = true → (isNon dy || inR 0 (n - 1) dy) = b → Same H G2 ∧ ∃ acc : List V, G2 L = some (.lst acc) ∧ acc.length ≤ j + 1 ∧ acc.isEmpty = ((xs.take (j + 1)).all fun d => isNon d || inR 0 (n - 1) d) := by
          intro b hb2 e2
          refine ⟨s2, acc, a1, by omega, ?_⟩
          rw [tk, e2, hb2, Bool.and_true]
        refine ⟨_, rfl, rfl, _, rfl, ite2 (fun c6 => ?_) (fun c6 => ?_)⟩
        · have n1 : isNon dy = false := by rw [← isNon_dt hDy]; simpa using c6
          refine ⟨_, rfl, _, rfl, _, _, rfl, rfl, y, dy, 0, n - 1, rfl, hDy, _, rfl, ?_⟩
          cases c7 : inR 0 (n - 1) dy with
          | true => exact drop _ rfl (by rw [n1, c7]; rfl)
          | false =>
            refine ⟨_, rfl, acc, a1, by show acc.length < 2 ^ 24; omega, same_grow nL s2 _, acc ++ [y], upd_same, by rw [List.length_append]; show acc.length + 1 ≤ j + 1; omega, ?_⟩
            rw [tk, n1, c7]
            simp
        · have n1 : isNon dy = true := by rw [← isNon_dt hDy]; simpa using c6
          exact drop _ rfl (by rw [n1]; rfl)
      · rintro G2 ⟨s2, acc, a1, a2, a3⟩
        rw [hul, List.take_length] at a3
        refine ⟨by show 0 ≤ 2 ^ 24; decide, fun e nE => ?_⟩
        refine ⟨L, e, acc, rfl, rfl, same_new nE _ _ _ a1, upd_same, ?_⟩
        rw [a3]
        exact q _ (s2.trans (same_new nE _))
  | int i => exact iteT (q H (Same.refl H))
  | bl b => exact iteT (q H (Same.refl H))
  | non => exact iteT (q H (Same.refl H))
  | str x => exact iteT (q H (Same.refl H))
  | lst _ _ => exact iteT (q H (Same.refl H))
  | dic _ => exact iteT (q H (Same.refl H))
end
end K17
namespace K17
open PySem GL GZ KW KR GU KU
open L2 hiding isNon
open KC hiding rLenS call_lenS
open KX (Small pieceD pairD walkE errD okP inA ab piece_str pair_two pair_no inV_strs flat_strs op_eqL0)
abbrev NM : List Str := ["_law_value", "_law_letters", "_law_rows", "_law_ends", "_law_row", "_law_end"]
section
variable {P : Program} {w : World} {K : PySem.W.Frag} {mg : Str → Option Value} {base : Heap}
theorem scLM : FnScope ["_law_value", "_law_letters", "_law_rows", "_law_ends", "_law_row", "_law_end"] ["_law_value"] (defScope sLMErr) := ⟨rfl, rfl, rfl, by decide +kernel, rfl, by decide +kernel, by decide +kernel⟩
theorem ok_lmerr {f fW fR : Addr} {fd fdW fdR : FuncData} (F : Fun K "_law_machine_error" "_law_machine_error" sLMErr f fd) (T : Txt mg) (DW : Dfn P w K mg base "_law_is_number" 1 fW fdW ["_law_value", "_law_least", "_law_most"] (spNumber K))
    (DR : Dfn P w K mg base "_law_is_row" 2 fR fdR ["_law_value", "_law_letters", "_law_many"] (spRow K)) : FnOk P w K mg base CX0 3 f fd ["_law_value"] (spErr K) := by
  refine F.ok scLM (fun vs H Q E h => ?_) (fun cdv A outer s H vs Q E hr h => ?_)
  · obtain ⟨v, d, rfl, _⟩ := h
    rfl
  obtain ⟨v, d, rfl, hd, hw, q⟩ := h
  have hr1 : Room 1 _ := hr.mono (by decide)
  refine ⟨_, pss_cons (ps_if (PW.pt (pw_or (pt_not (pt_val (pe_callB call_isi (by rfl) T.isi (by decide +kernel) (pa_cons (pv 0) (pa_cons (pe_bltn (v := .ty "tuple") (by rfl) T.c.tuple (by decide +kernel) rfl) pa_nil)))))
      (pw_or1 (pt_cmpR op_ne (pe_callB call_len_seq (by rfl) T.c.len PySem.boot_len (pa_cons (pv 0) pa_nil)) pe_int (nomark _))))) (pss_one (ps_ret pe_str)) pss_nil)
    (pss_cons (ps_asg (pv 0) (pg_tup (by rfl) (pgs_cons (pg_name (i := 1) scLM.nd rfl (Or.inr rfl)) (pgs_cons (pg_name (i := 2) scLM.nd rfl (Or.inr rfl)) (pgs_cons (pg_name (i := 3) scLM.nd rfl (Or.inl rfl)) pgs_nil)))))
    (pss_cons (ps_if (pt_not (pt_val (pe_call DW.ok hr1 rfl DW.m DW.kp DW.b .nil pass0 (pa_cons (pv 1) (pa_cons pe_int (pa_cons pe_int pa_nil)))))) (pss_one (ps_ret pe_str)) pss_nil)
    (pss_cons (ps_if (PW.pt (pw_or (pt_not (pt_val (pe_callB call_isi (by rfl) T.isi (by decide +kernel) (pa_cons (pv 2) (pa_cons (pe_bltn (v := .ty "tuple") (by rfl) T.c.tuple (by decide +kernel) rfl) pa_nil)))))
      (pw_or1 (pt_not (pt_chain op_le op_le pe_int (pe_callB call_len_seq (by rfl) T.c.len PySem.boot_len (pa_cons (pv 2) pa_nil)) pe_int))))) (pss_one (ps_ret pe_str)) pss_nil)
    (pss_cons (ps_if (pt_cmpR (op_ne0 hr.units0) (pe_lc (own := [("_law_row", 4)]) (g := gName 4) rfl scLM.nd (pi_tup (pv 2))
        (blkOk_by (own := [("_law_row", 4)]) (N := NM) (sc := defScope sLMErr) (by decide +kernel)) (fun _ _ _ _ _ => pg_name (i := 4) scLM.nd rfl (Or.inl rfl))
        (fun _ _ _ _ _ => pts_one (pt_not (pt_val (pe_call DR.ok hr rfl DR.m DR.kp DR.b .nil pass0 (pa_cons (pv 4) (pa_cons (pv 1) (pa_cons (pe_callB (show CallR _ _ (KC.rLenS K) from KC.call_lenS) (by rfl) T.c.len PySem.boot_len (pa_cons (pv 2) pa_nil)) pa_nil)))))))
        (fun _ _ _ _ _ => pv 4)) (pe_lst pa_nil) (nomark _)) (pss_one (ps_ret pe_str)) pss_nil)
    (pss_cons (ps_if (PW.pt (pw_or (pt_not (pt_val (pe_callB call_isi (by rfl) T.isi (by decide +kernel) (pa_cons (pv 3) (pa_cons (pe_bltn (v := .ty "tuple") (by rfl) T.c.tuple (by decide +kernel) rfl) pa_nil)))))
      (pw_or1 (pt_cmpR op_ne (pe_callB call_len_seq (by rfl) T.c.len PySem.boot_len (pa_cons (pv 3) pa_nil)) (pe_callB call_len_seq (by rfl) T.c.len PySem.boot_len (pa_cons (pv 2) pa_nil)) (nomark _))))) (pss_one (ps_ret pe_str)) pss_nil)
    (pss_one (ps_ret (pe_ifExp (pt_cmpR (op_ne0 hr.units0) (pe_lc (own := [("_law_end", 5)]) (g := gName 5) rfl scLM.nd (pi_tup (pv 3))
      (blkOk_by (own := [("_law_end", 5)]) (N := NM) (sc := defScope sLMErr) (by decide +kernel)) (fun _ _ _ _ _ => pg_name (i := 5) scLM.nd rfl (Or.inl rfl))
      (fun _ _ _ _ _ => pts_one (pt_not (pt_val (pe_callB (show CallR _ _ (rIsi K) from call_isi) (by rfl) T.isi (by decide +kernel) (pa_cons (pv 5) (pa_cons (pe_bltn (v := .ty "bool") (by rfl) T.bool (by decide +kernel) rfl) pa_nil))))))
      (fun _ _ _ _ _ => pv 5)) (pe_lst pa_nil) (nomark _)) pe_str pe_non)))))))), ?_⟩
  obtain ⟨ti, i1, i2⟩ := is_tuple hd
  refine ⟨_, rfl, _, _, ti, _, _, rfl, .ty _, i1, i2, _, rfl, ?_⟩
  cases hd with
  | @tup a vs ds ha hda =>
    have hl : vs.length = ds.length := hda.length
    refine iteF ⟨_, rfl, _, _, rfl, .inr (.inl (.inl ha)), rfl, _, rfl, ite2 (fun c => ?_) (fun c => ?_)⟩
    · have c' : ds.length ≠ 3 := by
        intro z
        rw [hl, z] at c
        exact absurd c (by decide)
      have k2 := q H (Same.refl H)
      rw [err_no (fun l r e z => by cases z; exact c' rfl)] at k2
      exact k2
    · have c' : ds.length = 3 := by
        refine Classical.byContradiction fun z => c ?_
        have z' : ¬ (V.int ((vs.length : Nat) : Int) = V.int 3) := fun y => z (by have := V.int.inj y; omega)
        rw [decide_eq_false z']
        rfl
      match ds, vs, c', hda, ha, hw, q with
      | [l, r, e], _, _, .cons (v := vl) h1 (.cons (v := vr) h2 (.cons (v := ve) h3 .nil)), ha, hw, q =>
        have wr : Small r := hw.mem (by simp)
        have we : Small e := hw.mem (by simp)
        rw [err_three] at q
        refine ⟨_, rfl, a, _, rfl, .inl (.inl ha), rfl, _, _, rfl, _, _, rfl, _, _, rfl, rfl, ?_⟩
        refine ⟨_, rfl, vl, l, 1, 4, rfl, h1, _, rfl, ?_⟩
        cases c1 : inR 1 4 l with
        | false =>
          have k2 := q H (Same.refl H)
          rw [c1] at k2
          exact k2
        | true =>
          obtain ⟨n, rfl⟩ := inR_int c1
          cases h1
          have q2 : ∀ G, Same H G → Q (if rowsOk n r then (if endsOk (len0 r) e then .non else .str "ends") else .str "rows") G := fun G s => by
            have k2 := q G s
            rw [c1] at k2
            exact k2
          obtain ⟨tr, r1, r2⟩ := is_tuple h2
          refine ⟨_, rfl, _, _, tr, _, _, rfl, .ty _, r1, r2, _, rfl, ?_⟩
          cases h2 with
          | @tup b us rs hb hub =>
            have hul : us.length = rs.length := hub.length
            have q3 : ∀ G : Hp, Same H G → Q (if (decide (1 ≤ rs.length) && decide (rs.length ≤ 400) && rs.all (rowOk n rs.length)) = true then (if endsOk (rs.length : Int) e then .non else .str "ends") else .str "rows") G := q2
            refine iteF ⟨_, rfl, _, _, rfl, .inr (.inl (.inl hb)), _, _, rfl, rfl, _, rfl, ite2 (fun c => ?_) (fun c => ?_)⟩
            · have c1' : 1 ≤ rs.length := by have := of_decide_eq_true c; omega
              refine ⟨_, _, rfl, rfl, _, rfl, ite2 (fun c2 => ?_) (fun c2 => ?_)⟩
              · have c3 : ¬ rs.length ≤ 400 := by
                  intro z
                  have z' : ((us.length : Nat) : Int) ≤ 400 := by omega
                  rw [decide_eq_true z'] at c2
                  cases c2
                have k2 := q3 H (Same.refl H)
                rw [decide_eq_false c3, Bool.and_false, Bool.false_and] at k2
                exact k2
              · have c3 : rs.length ≤ 400 := by
                  refine Classical.byContradiction fun z => c2 ?_
                  have z' : ¬ ((us.length : Nat) : Int) ≤ 400 := by omega
                  rw [decide_eq_false z']
                  rfl
                have q4 : ∀ G : Hp, Same H G → Q (if rs.all (rowOk n rs.length) = true then (if endsOk (rs.length : Int) e then .non else .str "ends") else .str "rows") G := fun G s => by
                  have k2 := q3 G s
                  rw [decide_eq_true c1', decide_eq_true c3, Bool.true_and, Bool.true_and] at k2
                  exact k2
                refine ⟨_, rfl, b, rfl, ⟨_, .inl (.inl hb)⟩, fun L nL => lc_tup (K := K) (a := b) (xs := us) (fun j G2 => Same H G2 ∧ ∃ acc : List V, G2 L = some (.lst acc) ∧ acc.length ≤ j ∧
                    acc.isEmpty = (rs.take j).all (rowOk n rs.length)) ⟨same_new nL _, [], upd_same, Nat.le_refl _, rfl⟩ (fun j G2 _ h => .inl (.inl (h.1 _ _ hb))) ?_ ?_⟩
                · rintro j y G2 hy ⟨s2, acc, a1, a2, a3⟩
                  obtain ⟨dy, y1, hDy'⟩ := DuAll.get hub hy
                  have hDy := hDy'.same s2
                  have jl : j < rs.length := (List.getElem?_eq_some_iff.mp y1).1
                  have wy : Small dy := wr.mem (List.mem_of_getElem? y1)
                  have tk : (rs.take (j + 1)).all (rowOk n rs.length) = (acc.isEmpty && rowOk n rs.length dy) := by
                    rw [List.take_add_one, y1, List.all_append, ← a3]
                    simp
                  refine ⟨rfl, _, rfl, _, rfl, _, rfl, b, us, rfl, .inr (.inl (.inl (s2 _ _ hb))), y, dy, n, rs.length, by rw [← hul]; rfl, hDy, wy, fun G3 s3 => ⟨_, rfl, ?_⟩⟩
                  cases c7 : rowOk n rs.length dy with
                  | true =>
                    refine ⟨s2.trans s3, acc, s3 _ _ a1, by omega, ?_⟩
                    rw [tk, c7, Bool.and_true]
                  | false =>
                    refine ⟨_, rfl, acc, s3 _ _ a1, by show acc.length < 2 ^ 24; omega, same_grow nL (s2.trans s3) _, acc ++ [y], upd_same, by rw [List.length_append]; show acc.length + 1 ≤ j + 1; omega, ?_⟩
                    rw [tk, c7]
                    simp
                · rintro G2 ⟨s2, acc, a1, a2, a3⟩
                  rw [hul, List.take_length] at a3
                  refine ⟨by show 0 ≤ 2 ^ 24; decide, fun eA nE => ?_⟩
                  have sE := s2.trans (same_new nE (.lst []))
                  refine ⟨L, eA, acc, rfl, rfl, same_new nE _ _ _ a1, upd_same, _, rfl, ?_⟩
                  generalize upd G2 eA (.lst []) = G at sE
                  rw [← a3] at q4
                  cases c8 : acc.isEmpty with
                  | false =>
                    have k3 := q4 G sE
                    rw [c8] at k3
                    exact k3
                  | true =>
                    have q5 : ∀ G' : Hp, Same G G' → Q (if endsOk (rs.length : Int) e then .non else .str "ends") G' := fun G' s' => by
                      have k3 := q4 G' (sE.trans s')
                      rw [c8] at k3
                      exact k3
                    have h3 := h3.same sE
                    obtain ⟨te, e1, e2⟩ := is_tuple h3
                    refine ⟨_, rfl, _, _, te, _, _, rfl, .ty _, e1, e2, _, rfl, ?_⟩
                    cases h3 with
                    | @tup k zs es hk hes =>
                      have hzl : zs.length = es.length := hes.length
                      refine iteF ⟨_, rfl, _, _, rfl, .inr (.inl (.inl hk)), _, rfl, _, _, rfl, .inr (.inl (.inl (sE _ _ hb))), rfl, _, rfl, ite2 (fun c4 => ?_) (fun c4 => ?_)⟩
                      · have c5 : ¬ ((es.length : Int) = rs.length) := by rw [← hzl, ← hul]; simpa using c4
                        have k2 := q5 G (Same.refl G)
                        have e5 : endsOk (rs.length : Int) (.tuple es) = false := by
                          show (decide ((es.length : Int) = rs.length) && _) = false
                          rw [decide_eq_false c5]; rfl
                        rw [e5] at k2
                        exact k2
                      · have c5 : ((es.length : Int) = rs.length) := by rw [← hzl, ← hul]; simpa using c4
                        have e5 : endsOk (rs.length : Int) (.tuple es) = es.all isBl := by
                          show (decide ((es.length : Int) = rs.length) && _) = _
                          rw [decide_eq_true c5]; rfl
                        rw [e5] at q5
                        have zl := we.len
                        refine ⟨_, rfl, k, rfl, ⟨_, .inl (.inl hk)⟩, fun L nL => lc_tup (K := K) (a := k) (xs := zs) (fun j G2 => Same G G2 ∧ ∃ acc : List V, G2 L = some (.lst acc) ∧ acc.length ≤ j ∧
                          acc.isEmpty = (es.take j).all isBl) ⟨same_new nL _, [], upd_same, Nat.le_refl _, rfl⟩ (fun j G2 _ h => .inl (.inl (h.1 _ _ hk))) ?_ ?_⟩
                        · rintro j y G2 hy ⟨s2, acc, a1, a2, a3⟩
                          obtain ⟨dy, y1, hDy'⟩ := DuAll.get hes hy
                          have hDy := hDy'.same s2
                          have jl : j < es.length := (List.getElem?_eq_some_iff.mp y1).1
                          have tk : (es.take (j + 1)).all isBl = (acc.isEmpty && isBl dy) := by
                            rw [List.take_add_one, y1, List.all_append, ← a3]
                            simp
                          obtain ⟨tb, b1, b2⟩ := is_bool hDy
                          refine ⟨rfl, _, rfl, _, _, tb, _, _, rfl, .ty _, b1, b2, _, rfl, ?_⟩
                          cases c7 : isBl dy with
                          | true =>
                            refine ⟨s2, acc, a1, by omega, ?_⟩
                            rw [tk, c7, Bool.and_true]
                          | false =>
                            refine ⟨_, rfl, acc, a1, by show acc.length < 2 ^ 24; omega, same_grow nL s2 _, acc ++ [y], upd_same, by rw [List.length_append]; show acc.length + 1 ≤ j + 1; omega, ?_⟩
                            rw [tk, c7]
                            simp
                        · rintro G2 ⟨s2, acc, a1, a2, a3⟩
                          rw [hzl, List.take_length] at a3
                          refine ⟨by show 0 ≤ 2 ^ 24; decide, fun e nE => ?_⟩
                          refine ⟨L, e, acc, rfl, rfl, same_new nE _ _ _ a1, upd_same, _, rfl, ?_⟩
                          have k3 := q5 _ (s2.trans (same_new nE (.lst [])))
                          rw [← a3] at k3
                          cases c9 : acc.isEmpty with
                          | true => rw [c9] at k3; exact k3
                          | false => rw [c9] at k3; exact k3
                    | int i => exact iteT (q5 G (Same.refl G))
                    | bl b => exact iteT (q5 G (Same.refl G))
                    | non => exact iteT (q5 G (Same.refl G))
                    | str x => exact iteT (q5 G (Same.refl G))
                    | lst _ _ => exact iteT (q5 G (Same.refl G))
                    | dic _ => exact iteT (q5 G (Same.refl G))
            · have c3 : ¬ 1 ≤ rs.length := by
                intro z
                exact c (decide_eq_true (by omega))
              have k2 := q3 H (Same.refl H)
              rw [decide_eq_false c3, Bool.false_and, Bool.false_and] at k2
              exact ⟨_, rfl, k2⟩
          | int i => exact iteT (q2 H (Same.refl H))
          | bl b => exact iteT (q2 H (Same.refl H))
          | non => exact iteT (q2 H (Same.refl H))
          | str x => exact iteT (q2 H (Same.refl H))
          | lst _ _ => exact iteT (q2 H (Same.refl H))
          | dic _ => exact iteT (q2 H (Same.refl H))
  | int i => exact iteT (q H (Same.refl H))
  | bl b => exact iteT (q H (Same.refl H))
  | non => exact iteT (q H (Same.refl H))
  | str x => exact iteT (q H (Same.refl H))
  | lst _ _ => exact iteT (q H (Same.refl H))
  | dic _ => exact iteT (q H (Same.refl H))
end
end K17
namespace K17
open PySem GL GZ KW KR GU KU
open L2 hiding isNon
open KC hiding rLenS call_lenS
open KX (Small pieceD pairD walkE errD okP inA ab piece_str pair_two pair_no inV_strs flat_strs op_eqL0 mt_extendT)
abbrev sLPair : Stmt := top 28
abbrev sLRErr : Stmt := top 29
def okE (l : Nat) (tk : List Str) (d : PyData) : Bool := match pieceD l d with
  | some x => !decide (x ∈ tk)
  | none => false
def lpairB (l : Nat) (tk : List Str) (d : PyData) : Bool := match pairD l d with
  | some (x, y) => !decide (x ∈ tk) && !decide (y ∈ tk)
  | none => false
def spLPair (K : PySem.W.Frag) : Sp := fun vs H Q _ => ∃ (l : Nat) (v : V) (d : PyData) (t : Addr) (tk : List Str), vs = [.int l, v, .ref t] ∧ Du K H v d ∧ Small d ∧ 1 ≤ l ∧ l ≤ 4 ∧ H t = some (.lst (tk.map V.str)) ∧ ∀ G, Same H G → Q (.bl (lpairB l tk d)) G
theorem lpair_no {l : Nat} {tk : List Str} {d : PyData} (h : pairD l d = none) : lpairB l tk d = false := by unfold lpairB; rw [h]
theorem lpair_bad {l : Nat} {tk : List Str} {ds : List PyData} {i : Nat} {e : PyData} (h : ds[i]? = some e) (b : okE l tk e = false) : lpairB l tk (.tuple ds) = false := by
  cases c : pairD l (.tuple ds) with
  | none => exact lpair_no c
  | some p =>
    obtain ⟨x, y⟩ := p
    obtain ⟨e1, p1, p2, p3, p4⟩ := pair_two c
    cases e1
    have hx : pieceD l (.str x) = some x := by show (if okP l x = true then some x else none) = _; rw [if_pos p3]
    have hy : pieceD l (.str y) = some y := by show (if okP l y = true then some y else none) = _; rw [if_pos p4]
    unfold lpairB
    rw [c]
    match i, h with
    | 0, h =>
      cases h
      unfold okE at b
      rw [hx] at b
      show (!decide (x ∈ tk) && _) = false
      rw [show (!decide (x ∈ tk)) = false from b, Bool.false_and]
    | 1, h =>
      cases h
      unfold okE at b
      rw [hy] at b
      show (_ && !decide (y ∈ tk)) = false
      rw [show (!decide (y ∈ tk)) = false from b, Bool.and_false]
theorem okE_str {l : Nat} {tk : List Str} {d : PyData} (h : okE l tk d = true) : ∃ x, d = .str x ∧ pieceD l d = some x ∧ x ∉ tk := by
  unfold okE at h
  cases c : pieceD l d with
  | none => rw [c] at h; cases h
  | some x =>
    rw [c] at h
    obtain ⟨rfl, _⟩ := piece_str c
    exact ⟨x, rfl, rfl, fun m => by simp [m] at h⟩
section
variable {P : Program} {w : World} {K : PySem.W.Frag} {mg : Str → Option Value} {base : Heap}
theorem scLPr : FnScope ["_law_letters", "_law_value", "_law_taken", "_law_one_here", "_law_letter"] ["_law_letters", "_law_value", "_law_taken"] (defScope sLPair) := ⟨rfl, rfl, rfl, by decide +kernel, rfl, by decide +kernel, by decide +kernel⟩
theorem ok_lpair {f : Addr} {fd : FuncData} (F : Fun K "_law_is_pair" "_law_is_pair" sLPair f fd) (T : Txt mg) :
    FnOk P w K mg base CX0 1 f fd ["_law_letters", "_law_value", "_law_taken"] (spLPair K) := by
  refine F.ok scLPr (fun vs H Q E h => ?_) (fun cdv A outer s H vs Q E hr h => ?_)
  · obtain ⟨l, v, d, t, tk, rfl, _⟩ := h
    rfl
  obtain ⟨l, v, d, tA, tk, rfl, hd, hw, l1, l4, ht, q⟩ := h
  refine ⟨_, pss_cons (ps_if (PW.pt (pw_or (pt_not (pt_val (pe_callB call_isi (by rfl) T.isi (by decide +kernel) (pa_cons (pv 1) (pa_cons (pe_bltn (v := .ty "tuple") (by rfl) T.c.tuple (by decide +kernel) rfl) pa_nil)))))
      (pw_or1 (pt_cmpR op_ne (pe_callB call_len_seq (by rfl) T.c.len PySem.boot_len (pa_cons (pv 1) pa_nil)) pe_int (nomark _))))) (pss_one (ps_ret pe_bl)) pss_nil)
    (pss_cons (ps_for PassesOwn.never rfl (pi_tup (pv 1)) (pg_name (i := 3) scLPr.nd rfl (Or.inl rfl))
      (pss_cons (ps_if (PW.pt (pw_or (pt_not (pt_val (pe_callB call_isi (by rfl) T.isi (by decide +kernel) (pa_cons (pv 3) (pa_cons (pe_bltn (v := .ty "str") (by rfl) T.str (by decide +kernel) rfl) pa_nil)))))
          (pw_or (pt_not (pt_chain op_le op_le pe_int (pe_callB call_len_str (by rfl) T.c.len PySem.boot_len (pa_cons (pv 3) pa_nil)) pe_int)) (pw_or1 (pt_cmpR op_in_seq (pv 3) (pv 2) (by rfl)))))) (pss_one (ps_ret pe_bl)) pss_nil)
      (pss_one (ps_if (pt_cmpR (op_ne0 hr.units0) (pe_lc (own := [("_law_letter", 4)]) (g := gName 4) rfl scLPr.nd (pi_str (pv 3))
          (blkOk_by (own := [("_law_letter", 4)]) (N := ["_law_letters", "_law_value", "_law_taken", "_law_one_here", "_law_letter"]) (sc := defScope sLPair) (by decide +kernel)) (fun _ _ _ _ _ => pg_name (i := 4) scLPr.nd rfl (Or.inl rfl))
          (fun _ _ _ _ _ => pts_one (pt_cmpR op_notInS (pv 4) (pe_slice sl_str pe_str po_none (po_some (pv 0))) (by rfl))) (fun _ _ _ _ _ => pv 4)) (pe_lst pa_nil) (nomark _)) (pss_one (ps_ret pe_bl)) pss_nil))))
    (pss_one (ps_ret (pe_and (pe_cmpR op_eq (pe_callB call_len_str (by rfl) T.c.len PySem.boot_len (pa_cons (pe_ix ix_tup (pv 1) pe_int (fun _ _ => rfl)) pa_nil)) (pe_callB call_len_str (by rfl) T.c.len PySem.boot_len (pa_cons (pe_ix ix_tup (pv 1) pe_int (fun _ _ => rfl)) pa_nil)) (nomark _))
      (pe_one (pe_cmpR op_ne (pe_ix ix_tup (pv 1) pe_int (fun _ _ => rfl)) (pe_ix ix_tup (pv 1) pe_int (fun _ _ => rfl)) (nomark _))))))), ?_⟩
  obtain ⟨ti, i1, i2⟩ := is_tuple hd
  refine ⟨_, rfl, _, _, ti, _, _, rfl, .ty _, i1, i2, _, rfl, ?_⟩
  cases hd with
  | @tup a vs ds ha hda =>
    have hl : vs.length = ds.length := hda.length
    refine iteF ⟨_, rfl, _, _, rfl, .inr (.inl (.inl ha)), rfl, _, rfl, ite2 (fun c => ?_) (fun c => ?_)⟩
    · have c' : ds.length ≠ 2 := by
        intro z
        rw [hl, z] at c
        exact absurd c (by decide)
      have k2 := q H (Same.refl H)
      rw [lpair_no (pair_no c')] at k2
      exact k2
    have c' : ds.length = 2 := by
      refine Classical.byContradiction fun z => c ?_
      have z' : ¬ (V.int ((vs.length : Nat) : Int) = V.int 2) := fun y => z (by have := V.int.inj y; omega)
      rw [decide_eq_false z']
      rfl
    refine ⟨_, rfl, a, rfl, ⟨_, .inl (.inl ha)⟩, for_tup (K := K) (a := a) (xs := vs) (fun i σ G => ∃ k3 : Option V, σ = [some (.int l), some (.ref a), some (.ref tA), k3, none] ∧ Same H G ∧ (ds.take i).all (okE l tk) = true)
      ⟨none, rfl, Same.refl H, rfl⟩ (fun i σ G _ h => let ⟨_, _, s, _⟩ := h; .inl (.inl (s _ _ ha))) ?_ ?_⟩
    · rintro i x σ G hx ⟨k3, rfl, sG, all1⟩
      obtain ⟨d1, hd1, hD1⟩ := hda.get hx
      have hD := hD1.same sG
      have wd1 : Small d1 := hw.mem (List.mem_of_getElem? hd1)
      have no : okE l tk d1 = false → ∀ G2, Same H G2 → Q (.bl false) G2 := fun h G2 s2 => by
        have k2 := q G2 s2
        rw [lpair_bad hd1 h] at k2
        exact k2
      obtain ⟨t2, j1, j2⟩ := is_str hD
      refine ⟨_, rfl, _, _, t2, _, _, rfl, .ty _, j1, j2, _, rfl, ?_⟩
      cases hD with
      | str x =>
        have xl := wd1.str
        have eP : pieceD l (.str x) = if okP l x = true then some x else none := rfl
        have noP : okP l x = false → okE l tk (.str x) = false := fun h => by unfold okE; rw [eP, h]; rfl
        refine iteF ⟨_, rfl, _, rfl, by show x.length ≤ 2 ^ 24; omega, _, _, rfl, rfl, _, rfl, ite2 (fun c => ?_) (fun c => ?_)⟩
        · have c1 : 1 ≤ x.length := by have := of_decide_eq_true c; omega
          refine ⟨_, _, rfl, rfl, _, rfl, ite2 (fun c2 => ?_) (fun c2 => ?_)⟩
          · have c3 : ¬ x.length ≤ 3 := by
              intro z
              have z' : ((x.length : Nat) : Int) ≤ 3 := by omega
              rw [decide_eq_true z'] at c2
              cases c2
            exact no (noP (by unfold okP; rw [decide_eq_false c3, Bool.and_false, Bool.false_and])) G sG
          · have c3 : x.length ≤ 3 := by
              refine Classical.byContradiction fun z => c2 ?_
              have z' : ¬ ((x.length : Nat) : Int) ≤ 3 := by omega
              rw [decide_eq_false z']
              rfl
            refine ⟨_, rfl, _, rfl, tA, _, rfl, .inl (.inl (.inl (sG _ _ ht))), rfl, flat_strs tk, _, rfl, ite2 (fun c4 => ?_) (fun c4 => ?_)⟩
            · have m : x ∈ tk := by
                have c4' : inV (.str x) (tk.map V.str) = true := c4
                rw [inV_strs] at c4'
                exact of_decide_eq_true c4'
              refine no ?_ G sG
              unfold okE
              rw [eP]
              split
              · rename_i y e
                split at e
                · cases e; simp [m]
                · cases e
              · rfl
            · have m : x ∉ tk := fun m => by
                apply c4
                show inV (.str x) (tk.map V.str) = true
                rw [inV_strs]
                exact decide_eq_true m
              refine ⟨_, rfl, _, rfl, fun L nL => lc_it (walk_str (z := x)) (fun j G2 => Same G G2 ∧ ∃ acc : List V, G2 L = some (.lst acc) ∧ acc.length ≤ j ∧ acc.isEmpty = (x.cps.toList.take j).all (inA l))
                ⟨same_new nL _, [], upd_same, Nat.le_refl _, rfl⟩ (fun _ _ _ _ => True.intro) ?_ ?_⟩
              · rintro j y G2 G3 hj ⟨s2, acc, a1, a2, a3⟩ ⟨rfl, cc, hc, rfl⟩
                have tk1 : (x.cps.toList.take (j + 1)).all (inA l) = (acc.isEmpty && inA l cc) := by
                  rw [cps_take hc, List.all_append, ← a3]
                  simp
                refine ⟨rfl, _, rfl, _, rfl, l, rfl, _, rfl, by decide, cc, _, rfl, rfl, _, rfl, ?_⟩
                rw [cut_abcd l l1 l4]
                have eA : inA l cc = decide (cc ∈ (wS (List.range l)).cps.toList) := rfl
                rw [← eA]
                cases c7 : inA l cc with
                | true =>
                  refine ⟨s2, acc, a1, by omega, ?_⟩
                  rw [tk1, c7, Bool.and_true]
                | false =>
                  refine ⟨_, rfl, acc, a1, by show acc.length < 2 ^ 24; have : x.cps.size = x.length := rfl; omega, same_grow nL s2 _, acc ++ [V.str ⟨#[cc]⟩], upd_same, by rw [List.length_append]; show acc.length + 1 ≤ j + 1; omega, ?_⟩
                  rw [tk1, c7]
                  simp
              · rintro G2 ⟨s2, acc, a1, a2, a3⟩
                have e1 : x.cps.toList.take x.cps.size = x.cps.toList := by rw [← Array.length_toList, List.take_length]
                rw [e1] at a3
                refine ⟨by show 0 ≤ 2 ^ 24; decide, fun eA nE => ?_⟩
                have sE := s2.trans (same_new nE (.lst []))
                refine ⟨L, eA, acc, rfl, rfl, same_new nE _ _ _ a1, upd_same, _, rfl, ?_⟩
                have eO : okP l x = acc.isEmpty := by
                  unfold okP
                  rw [decide_eq_true c1, decide_eq_true c3, Bool.true_and, Bool.true_and, a3]
                cases c8 : acc.isEmpty with
                | false => exact no (noP (by rw [eO, c8])) _ (sG.trans sE)
                | true =>
                  refine ⟨_, rfl, sG.trans sE, ?_⟩
                  rw [List.take_add_one, hd1, List.all_append, all1]
                  have : okE l tk (.str x) = true := by
                    unfold okE
                    rw [eP, eO, c8]
                    simp [m]
                  simp [this]
        · have c1 : ¬ 1 ≤ x.length := by
            intro z
            exact c (decide_eq_true (by omega))
          exact ⟨_, rfl, no (noP (by unfold okP; rw [decide_eq_false c1, Bool.false_and, Bool.false_and])) G sG⟩
      | int i => exact iteT (no rfl G sG)
      | bl b => exact iteT (no rfl G sG)
      | non => exact iteT (no rfl G sG)
      | tup _ _ => exact iteT (no rfl G sG)
      | lst _ _ => exact iteT (no rfl G sG)
      | dic _ => exact iteT (no rfl G sG)
    · rintro σ G ⟨k3, rfl, sG, all1⟩
      rw [hl, List.take_length] at all1
      match ds, vs, c', hda, ha, hw, q, all1, hl with
      | [d1, d2], _, _, .cons (v := v1) h1 (.cons (v := v2) h2 .nil), ha, hw, q, all1, hl =>
      simp only [List.all_cons, List.all_nil, Bool.and_true, Bool.and_eq_true] at all1
      obtain ⟨x, rfl, p1, n1⟩ := okE_str all1.1
      obtain ⟨y, rfl, p2, n2⟩ := okE_str all1.2
      have xl := (hw.mem (d := .str x) (by simp)).str
      have yl := (hw.mem (d := .str y) (by simp)).str
      cases h1
      cases h2
      have e0 : pairD l (.tuple [.str x, .str y]) = if x.length = y.length ∧ x ≠ y then some (x, y) else none := by
        show (match pieceD l (.str x), pieceD l (.str y) with | some x, some y => if x.length = y.length ∧ x ≠ y then some (x, y) else none | _, _ => none) = _
        rw [p1, p2]
      have ha1 := sG _ _ ha
      have k2 := q G sG
      refine ⟨_, rfl, a, _, 0, _, rfl, rfl, .inl (.inl ha1), rfl, x, rfl, by show x.length ≤ 2 ^ 24; omega, _, rfl, a, _, 1, _, rfl, rfl, .inl (.inl ha1), rfl, y, rfl, by show y.length ≤ 2 ^ 24; omega, rfl, _, rfl, ite2 (fun c3 => ?_) (fun c3 => ?_)⟩
      · have c4 : x.length = y.length := by
          have := V.int.inj (of_decide_eq_true c3)
          omega
        refine ⟨_, rfl, a, _, 0, _, rfl, rfl, .inl (.inl ha1), rfl, _, rfl, a, _, 1, _, rfl, rfl, .inl (.inl ha1), rfl, rfl, ?_⟩
        by_cases c5 : x = y
        · rw [if_neg (fun z => z.2 c5)] at e0
          rw [lpair_no e0] at k2
          have e : (!decide (V.str x = V.str y)) = false := by rw [c5]; simp
          rw [e]
          exact k2
        · rw [if_pos ⟨c4, c5⟩] at e0
          have e1 : lpairB l tk (.tuple [.str x, .str y]) = true := by
            unfold lpairB
            rw [e0]
            simp [n1, n2]
          rw [e1] at k2
          have e : (!decide (V.str x = V.str y)) = true := by simp [c5]
          rw [e]
          exact k2
      · have c4 : x.length ≠ y.length := fun z => c3 (decide_eq_true (by rw [z]))
        rw [if_neg (fun z => c4 z.1)] at e0
        rw [lpair_no e0] at k2
        exact k2
  | int i => exact iteT (q H (Same.refl H))
  | bl b => exact iteT (q H (Same.refl H))
  | non => exact iteT (q H (Same.refl H))
  | str x => exact iteT (q H (Same.refl H))
  | lst _ _ => exact iteT (q H (Same.refl H))
  | dic _ => exact iteT (q H (Same.refl H))
end
end K17
namespace K17
open PySem GL GZ KW KR GU KU
open L2 hiding isNon
open KC hiding rLenS call_lenS
open KX (Small pieceD pairD walkE errD okP inA ab piece_str pair_two pair_no inV_strs flat_strs op_eqL0 mt_extendT)
abbrev sDue : Stmt := top 33
section
variable {P : Program} {w : World} {K : PySem.W.Frag} {mg : Str → Option Value} {base : Heap}
theorem scLRE : FnScope ["_law_letters", "_law_value", "_law_taken", "_law_index"] ["_law_letters", "_law_value"] (defScope sLRErr) := ⟨rfl, rfl, rfl, by decide +kernel, rfl, by decide +kernel, by decide +kernel⟩
theorem ok_lrerr {f fP : Addr} {fd fdP : FuncData} (F : Fun K "_law_rule_error" "_law_rule_error" sLRErr f fd) (T : Txt mg) (D : Dfn P w K mg base "_law_is_pair" 1 fP fdP ["_law_letters", "_law_value", "_law_taken"] (spLPair K)) :
    FnOk P w K mg base CX0 2 f fd ["_law_letters", "_law_value"] (spRErr K) := by
  refine F.ok scLRE (fun vs H Q E h => ?_) (fun cdv A outer s H vs Q E hr h => ?_)
  · obtain ⟨l, v, d, rfl, _⟩ := h
    rfl
  obtain ⟨l, v, d, rfl, hd, hw, l1, l4, q⟩ := h
  refine ⟨_, pss_cons (ps_if (pt_not (pt_val (pe_callB call_isi (by rfl) T.isi (by decide +kernel) (pa_cons (pv 1) (pa_cons (pe_bltn (v := .ty "tuple") (by rfl) T.c.tuple (by decide +kernel) rfl) pa_nil))))) (pss_one (ps_ret (pe_tup (pa_cons pe_non (pa_cons pe_str pa_nil))))) pss_nil)
    (pss_cons (ps_set (i := 2) scLRE.nd rfl (Or.inl rfl) (pe_lst pa_nil))
    (pss_cons (ps_for PassesOwn.never rfl (pi_range1 rfl T.c.range (pa_cons (pe_callB call_len_seq (by rfl) T.c.len PySem.boot_len (pa_cons (pv 1) pa_nil)) pa_nil)) (pg_name (i := 3) scLRE.nd rfl (Or.inl rfl))
      (pss_cons (ps_if (pt_not (pt_val (pe_call D.ok hr rfl D.m D.kp D.b .nil pass0 (pa_cons (pv 0) (pa_cons (pe_ix ix_tup (pv 1) (pv 3) (fun _ _ => rfl)) (pa_cons (pv 2) pa_nil)))))) (pss_one (ps_ret (pe_tup (pa_cons (pv 3) (pa_cons pe_str pa_nil))))) pss_nil)
      (pss_one (ps_expr (pe_bm PySem.F.plainAttrs_list PySem.F.slot_list_extend PySem.F.type_list_extend mt_extendT (pv 2) (pa_cons (pe_ix ix_tup (pv 1) (pv 3) (fun _ _ => rfl)) pa_nil))))))
    (pss_one (ps_ret (pe_ifExp (pt_cmpR op_gt (pe_callB call_len_seq (by rfl) T.c.len PySem.boot_len (pa_cons (pv 1) pa_nil)) pe_int (nomark _)) (pe_tup (pa_cons pe_non (pa_cons pe_str pa_nil))) pe_non))))), ?_⟩
  obtain ⟨ti, i1, i2⟩ := is_tuple hd
  refine ⟨_, rfl, _, _, ti, _, _, rfl, .ty _, i1, i2, _, rfl, ?_⟩
  have no : (∀ ds, d ≠ .tuple ds) → ∀ t, H t = none → Q (.ref t) (upd H t (.tup [.non, .str "rule"])) := fun hn t nt => by
    have e : errD l d = .tuple [.none, .str "rule"] := by
      cases d with
      | tuple ds => exact absurd rfl (hn ds)
      | _ => rfl
    exact q _ _ (same_new nt _) (by rw [e]; exact .tup upd_same (.cons .non (.cons (.str _) .nil)))
  cases hd with
  | @tup a vs ds ha hda =>
    have hl : vs.length = ds.length := hda.length
    have dl := hw.len
    refine iteF ⟨by show 0 ≤ 2 ^ 24; decide, fun lf nlf => ?_⟩
    have s0 := same_new nlf (.lst [])
    have g0 : upd H lf (.lst []) lf = some (.lst (([] : List Str).map V.str)) := upd_same
    generalize upd H lf (.lst []) = H1 at s0 g0
    refine ⟨_, rfl, a, vs, rfl, .inr (.inl (.inl (s0 _ _ ha))), vs.length, rfl, by omega, by omega, for_range (lo := 0) (n := vs.length) (fun i σ G => ∃ (k3 : Option V) (tk : List Str), σ = [some (.int l), some (.ref a), some (.ref lf), k3] ∧ Same H G ∧ G lf = some (.lst (tk.map V.str)) ∧ tk.length ≤ 2 * i ∧
        KX.walkE l 0 [] ds = KX.walkE l i tk (ds.drop i)) ⟨none, [], rfl, s0, g0, Nat.zero_le _, rfl⟩ ?_ ?_⟩
    · rintro i σ G hi ⟨k3, tk, rfl, sG, gl, tl, we⟩
      obtain ⟨x, e1⟩ : ∃ x, vs[i]? = some x := ⟨_, List.getElem?_eq_getElem hi⟩
      obtain ⟨d1, hd1, hD1⟩ := hda.get e1
      have dr : ds.drop i = d1 :: ds.drop (i + 1) := by
        have il : i < ds.length := by omega
        rw [List.drop_eq_getElem_cons il]
        rw [List.getElem?_eq_getElem il] at hd1
        cases hd1
        rfl
      have wd1 : Small d1 := hw.mem (List.mem_of_getElem? hd1)
      have out : KX.walkE l 0 [] ds = some i → ∀ G2, Same H G2 → ∀ t, G2 t = none → Q (.ref t) (upd G2 t (.tup [.int (0 + (i : Nat)), .str "pair"])) := fun h G2 s2 t nt => by
        have e : errD l (.tuple ds) = .tuple [.int (i : Nat), .str "pair"] := by
          unfold errD
          simp only [h]
        rw [Int.zero_add]
        exact q _ _ (s2.trans (same_new nt _)) (by rw [e]; exact .tup upd_same (.cons (.int _) (.cons (.str _) .nil)))
      rw [dr] at we
      refine ⟨_, rfl, _, rfl, _, rfl, a, vs, _, x, rfl, rfl, .inl (.inl (sG _ _ ha)), by rw [Int.zero_add]; exact atI_nat e1, _, rfl, l, x, d1, lf, tk, rfl, hD1.same sG, wd1, l1, l4, gl, fun G1 s1 => ⟨_, rfl, ?_⟩⟩
      have sG1 := sG.trans s1
      cases c1 : pairD l d1 with
      | none =>
        have w1 : KX.walkE l 0 [] ds = some i := by
          rw [we]; unfold KX.walkE; rw [c1]
        rw [lpair_no c1]
        exact iteT ⟨_, rfl, by show 2 ≤ 2 ^ 24; decide, fun t nt => out w1 G1 sG1 t nt⟩
      | some ab =>
        obtain ⟨a1, b1⟩ := ab
        obtain ⟨rfl, p1, p2, p3, p4⟩ := pair_two c1
        have w1 : KX.walkE l 0 [] ds = if a1 ∈ tk ∨ b1 ∈ tk then some i else KX.walkE l (i + 1) (tk ++ [a1, b1]) (ds.drop (i + 1)) := by
          rw [we]
          show (match pairD l (.tuple [.str a1, .str b1]) with | none => some i | some (x, y) => if x ∈ tk ∨ y ∈ tk then some i else KX.walkE l (i + 1) (tk ++ [x, y]) (ds.drop (i + 1))) = _
          rw [c1]
        have eB : lpairB l tk (.tuple [.str a1, .str b1]) = (!decide (a1 ∈ tk) && !decide (b1 ∈ tk)) := by
          unfold lpairB
          rw [c1]
        rw [eB]
        by_cases m : a1 ∈ tk ∨ b1 ∈ tk
        · have e : (!decide (a1 ∈ tk) && !decide (b1 ∈ tk)) = false := by
            rcases m with m | m
            · rw [decide_eq_true m]; rfl
            · rw [decide_eq_true m, Bool.not_true, Bool.and_false]
          rw [e]
          rw [if_pos m] at w1
          exact iteT ⟨_, rfl, by show 2 ≤ 2 ^ 24; decide, fun t nt => out w1 G1 sG1 t nt⟩
        · have e : (!decide (a1 ∈ tk) && !decide (b1 ∈ tk)) = true := by
            rw [decide_eq_false fun z => m (.inl z), decide_eq_false fun z => m (.inr z)]
            rfl
          rw [e]
          rw [if_neg m] at w1
          cases hD1 with
          | @tup t us _ ht hu =>
          cases hu with
          | cons u1 u2 =>
          cases u2 with
          | cons u2 u3 =>
          cases u3
          cases u1
          cases u2
          have gl1 := s1 _ _ gl
          have ht1 := sG1 _ _ ht
          refine iteF ⟨_, rfl, .inl ⟨rfl, _, .inl (.inl gl1)⟩, _, rfl, _, rfl, a, vs, _, _, rfl, rfl, .inl (.inl (sG1 _ _ ha)), by rw [Int.zero_add]; exact atI_nat e1, lf, t, _, _, rfl, rfl, gl1, ht1, by rw [List.length_map]; show _ + 2 ≤ 2 ^ 24; omega, ?_⟩
          exact ⟨_, tk ++ [a1, b1], rfl, same_grow nlf sG1 _, by rw [upd_same, List.map_append]; rfl, by rw [List.length_append]; show _ + 2 ≤ _; omega, w1⟩
    · rintro σ G ⟨k3, tk, rfl, sG, gl, tl, we⟩
      rw [hl, List.drop_length] at we
      have we' : KX.walkE l 0 [] ds = none := we
      refine ⟨_, rfl, a, vs, rfl, .inr (.inl (.inl (sG _ _ ha))), _, _, rfl, rfl, _, rfl, ite2 (fun c => ?_) (fun c => ?_)⟩
      · have c6 : 6 < ds.length := by have := of_decide_eq_true c; omega
        refine ⟨by show 2 ≤ 2 ^ 24; decide, fun t nt => ?_⟩
        have e : errD l (.tuple ds) = .tuple [.none, .str "many"] := by
          unfold errD
          simp only [we', if_pos c6]
        exact q _ _ (sG.trans (same_new nt _)) (by rw [e]; exact .tup upd_same (.cons .non (.cons (.str _) .nil)))
      · have c6 : ¬ 6 < ds.length := fun z => c (decide_eq_true (by omega))
        have e : errD l (.tuple ds) = .none := by
          unfold errD
          simp only [we', if_neg c6]
        exact q _ _ sG (by rw [e]; exact .non)
  | int i => exact iteT ⟨by show 2 ≤ 2 ^ 24; decide, fun t nt => no (fun _ z => nomatch z) t nt⟩
  | bl b => exact iteT ⟨by show 2 ≤ 2 ^ 24; decide, fun t nt => no (fun _ z => nomatch z) t nt⟩
  | non => exact iteT ⟨by show 2 ≤ 2 ^ 24; decide, fun t nt => no (fun _ z => nomatch z) t nt⟩
  | str x => exact iteT ⟨by show 2 ≤ 2 ^ 24; decide, fun t nt => no (fun _ z => nomatch z) t nt⟩
  | lst _ _ => exact iteT ⟨by show 2 ≤ 2 ^ 24; decide, fun t nt => no (fun _ z => nomatch z) t nt⟩
  | dic _ => exact iteT ⟨by show 2 ≤ 2 ^ 24; decide, fun t nt => no (fun _ z => nomatch z) t nt⟩
end
end K17
namespace K17
open PySem GL GZ KW KR GU KU
open L2 hiding isNon
open KC hiding rLenS call_lenS
open KX (Small pieceD pairD walkE errD okP inA ab piece_str pair_two pair_no inV_strs flat_strs op_eqL0 mt_extendT)
abbrev NDu : List Str := ["_law_value", "_law_kind_here", "_law_signs_here", "_law_rule_here", "_law_one_here", "_law_error"]
section
variable {P : Program} {w : World} {K : PySem.W.Frag} {mg : Str → Option Value} {base : Heap}
theorem scDu : FnScope ["_law_value", "_law_kind_here", "_law_signs_here", "_law_rule_here", "_law_one_here", "_law_error"] ["_law_value"] (defScope sDue) := ⟨rfl, rfl, rfl, by decide +kernel, rfl, by decide +kernel, by decide +kernel⟩
theorem ok_due {f fM fR : Addr} {fd fdM fdR : FuncData} (F : Fun K "_law_due" "_law_due" sDue f fd) (T : Txt mg) (DM : Dfn P w K mg base "_law_machine_error" 3 fM fdM ["_law_value"] (spErr K))
    (DR : Dfn P w K mg base "_law_rule_error" 2 fR fdR ["_law_letters", "_law_value"] (spRErr K)) : FnOk P w K mg base CX0 4 f fd ["_law_value"] (spSErr K) := by
  refine F.ok scDu (fun vs H Q E h => ?_) (fun cdv A outer s H vs Q E hr h => ?_)
  · obtain ⟨v, d, rfl, _⟩ := h
    rfl
  obtain ⟨v, d, rfl, hd, hw, q⟩ := h
  have hr2 : Room 2 _ := hr.mono (by decide)
  refine ⟨_, pss_cons (ps_if (PW.pt (pw_or (pt_not (pt_val (pe_callB call_isi (by rfl) T.isi (by decide +kernel) (pa_cons (pv 0) (pa_cons (pe_bltn (v := .ty "tuple") (by rfl) T.c.tuple (by decide +kernel) rfl) pa_nil)))))
      (pw_or1 (pt_cmpR op_ne (pe_callB call_len_seq (by rfl) T.c.len PySem.boot_len (pa_cons (pv 0) pa_nil)) pe_int (nomark _))))) (pss_one (ps_ret (pe_tup (pa_cons pe_str (pa_cons pe_non pa_nil))))) pss_nil)
    (pss_cons (ps_asg (pv 0) (pg_tup (by rfl) (pgs_cons (pg_name (i := 1) scDu.nd rfl (Or.inl rfl)) (pgs_cons (pg_name (i := 2) scDu.nd rfl (Or.inl rfl)) (pgs_cons (pg_name (i := 3) scDu.nd rfl (Or.inl rfl)) pgs_nil)))))
    (pss_cons (ps_if (pt_cmpR op_notN (pe_call DM.ok hr rfl DM.m DM.kp DM.b .nil pass0 (pa_cons (pv 1) pa_nil)) pe_non (nomark _)) (pss_one (ps_ret (pe_tup (pa_cons pe_str (pa_cons (pe_call DM.ok hr rfl DM.m DM.kp DM.b .nil pass0 (pa_cons (pv 1) pa_nil)) pa_nil))))) pss_nil)
    (pss_cons (ps_if (pt_cmpR op_gt (pe_callB call_len_seq (by rfl) T.c.len PySem.boot_len (pa_cons (pe_ix ix_tup (pv 1) pe_int (fun _ _ => rfl)) pa_nil)) pe_int (nomark _)) (pss_one (ps_ret (pe_tup (pa_cons pe_str (pa_cons pe_str pa_nil))))) pss_nil)
    (pss_cons (ps_if (PW.pt (pw_or (pt_not (pt_val (pe_callB call_isi (by rfl) T.isi (by decide +kernel) (pa_cons (pv 2) (pa_cons (pe_bltn (v := .ty "str") (by rfl) T.str (by decide +kernel) rfl) pa_nil)))))
      (pw_or (pt_cmpR op_ne (pe_callB call_len_str (by rfl) T.c.len PySem.boot_len (pa_cons (pv 2) pa_nil)) (pe_ix ix_tup (pv 1) pe_int (fun _ _ => rfl)) (nomark _))
      (pw_or1 (pt_cmpR (op_ne0 hr.units0) (pe_lc (own := [("_law_one_here", 4)]) (g := gName 4) rfl scDu.nd (pi_str (pv 2))
          (blkOk_by (own := [("_law_one_here", 4)]) (N := NDu) (sc := defScope sDue) (by decide +kernel)) (fun _ _ _ _ _ => pg_name (i := 4) scDu.nd rfl (Or.inl rfl))
          (fun _ _ _ _ _ => pts_one (pt_cmpR op_notInS (pv 4) pe_str (by rfl))) (fun _ _ _ _ _ => pv 4)) (pe_lst pa_nil) (nomark _)))))) (pss_one (ps_ret (pe_tup (pa_cons pe_str (pa_cons pe_non pa_nil))))) pss_nil)
    (pss_cons (ps_set (i := 5) scDu.nd rfl (Or.inl rfl) (pe_call DR.ok hr2 rfl DR.m DR.kp DR.b .nil pass0 (pa_cons (pe_ix ix_tup (pv 1) pe_int (fun _ _ => rfl)) (pa_cons (pv 3) pa_nil))))
    (pss_one (ps_ret (pe_ifExp (pt_cmpR op_isN (pv 5) pe_non (nomark _)) pe_non (pe_tup (pa_cons pe_str (pa_cons (pv 5) pa_nil))))))))))), ?_⟩
  obtain ⟨ti, i1, i2⟩ := is_tuple hd
  refine ⟨_, rfl, _, _, ti, _, _, rfl, .ty _, i1, i2, _, rfl, ?_⟩
  have no : serr d = .tuple [.str "scheme", .none] → ∀ t, H t = none → Q (.ref t) (upd H t (.tup [.str "scheme", .non])) := fun e t nt =>
    q _ _ (same_new nt _) (by rw [e]; exact .tup upd_same (.cons (.str _) (.cons .non .nil)))
  cases hd with
  | @tup a vs ds ha hda =>
    have hl : vs.length = ds.length := hda.length
    refine iteF ⟨_, rfl, _, _, rfl, .inr (.inl (.inl ha)), rfl, _, rfl, ite2 (fun c => ?_) (fun c => ?_)⟩
    · have c' : ds.length ≠ 3 := by
        intro z
        rw [hl, z] at c
        exact absurd c (by decide)
      exact ⟨by show 2 ≤ 2 ^ 24; decide, fun t nt => no (serr_no fun l r e z => by cases z; exact c' rfl) t nt⟩
    · have c' : ds.length = 3 := by
        refine Classical.byContradiction fun z => c ?_
        have z' : ¬ (V.int ((vs.length : Nat) : Int) = V.int 3) := fun y => z (by have := V.int.inj y; omega)
        rw [decide_eq_false z']
        rfl
      match ds, vs, c', hda, ha, hw, q with
      | [k, sg, r], _, _, .cons (v := vk) h1 (.cons (v := vs) h2 (.cons (v := vr) h3 .nil)), ha, hw, q =>
        have wk : Small k := hw.mem (by simp)
        have ws : Small sg := hw.mem (by simp)
        have wr : Small r := hw.mem (by simp)
        refine ⟨_, rfl, a, _, rfl, .inl (.inl ha), rfl, _, _, rfl, _, _, rfl, _, _, rfl, rfl, ?_⟩
        refine ⟨_, rfl, vk, k, rfl, h1, wk, fun G1 s1 => ?_⟩
        rcases err_is k with ⟨e0, n, rs, es, rfl, n1, n4⟩ | ⟨e, e0⟩
        · rw [e0]
          cases h1 with
          | @tup b us _ hb hub =>
          cases hub with
          | cons u1 u2 =>
          cases u2 with
          | cons u2 u3 =>
          cases u3 with
          | cons u3 u4 =>
          cases u4
          cases u1
          cases u2 with
          | @tup rA rus _ hrA hrus =>
          have rl : rus.length = rs.length := hrus.length
          have es : serr (.tuple [.tuple [.int n, .tuple rs, es], sg, r]) = if 8 < rs.length then .tuple [.str "kind", .str "states"] else if signsOk n sg then (match errD n.toNat r with | .none => .none | e => .tuple [.str "rule", e]) else .tuple [.str "signs", .none] := by
            unfold serr
            simp only [e0]
            rfl
          have hb1 := s1 _ _ hb
          refine ⟨rfl, _, rfl, ite2 (fun c => absurd c (by simp)) (fun _ => ?_)⟩
          refine ⟨_, rfl, b, _, 1, _, rfl, rfl, .inl (.inl hb1), rfl, rA, rus, rfl, .inr (.inl (.inl (s1 _ _ hrA))), _, _, rfl, rfl, _, rfl, ite2 (fun c8 => ?_) (fun c8 => ?_)⟩
          · have r8 : 8 < rs.length := by have := of_decide_eq_true c8; omega
            exact ⟨by show 2 ≤ 2 ^ 24; decide, fun t nt => q _ _ (s1.trans (same_new nt _)) (by rw [es, if_pos r8]; exact .tup upd_same (.cons (.str _) (.cons (.str _) .nil)))⟩
          · have r8 : ¬ 8 < rs.length := fun z => c8 (decide_eq_true (by omega))
            rw [es, if_neg r8] at q
            have nos : signsOk n sg = false → ∀ G2, Same H G2 → ∀ t, G2 t = none → Q (.ref t) (upd G2 t (.tup [.str "signs", .non])) := fun e G2 s2 t nt => by
              rw [e] at q
              exact q _ _ (s2.trans (same_new nt _)) (.tup upd_same (.cons (.str _) (.cons .non .nil)))
            have yes : signsOk n sg = true → ∀ v' G2, Same H G2 → Dt K G2 v' (match errD n.toNat r with | .none => .none | e => .tuple [.str "rule", e]) → Q v' G2 := fun e => by
              rw [e, if_pos rfl] at q
              exact q
            have h2' := h2.same s1
            obtain ⟨t2, j1, j2⟩ := is_str h2'
            refine ⟨_, rfl, _, _, t2, _, _, rfl, .ty _, j1, j2, _, rfl, ?_⟩
            cases h2' with
            | str x =>
              have xl := ws.str
              refine iteF ⟨_, rfl, _, rfl, by show x.length ≤ 2 ^ 24; omega, _, rfl, b, _, 0, _, rfl, rfl, .inl (.inl hb1), rfl, rfl, _, rfl, ite2 (fun c => ?_) (fun c => ?_)⟩
              · have c5 : ¬ ((x.length : Int) = n) := by simpa using c
                exact ⟨by show 2 ≤ 2 ^ 24; decide, fun t nt => nos (by show (decide ((x.length : Int) = n) && _) = false; rw [decide_eq_false c5]; rfl) G1 s1 t nt⟩
              · have c5 : (x.length : Int) = n := by simpa using c
                have eS : signsOk n (.str x) = x.cps.toList.all fun c => decide (c ∈ ("+-" : Str).cps.toList) := by
                  show (decide ((x.length : Int) = n) && _) = _
                  rw [decide_eq_true c5, Bool.true_and]
                refine ⟨_, rfl, _, rfl, fun L nL => lc_it (walk_str (z := x)) (fun j G2 => Same G1 G2 ∧ ∃ acc : List V, G2 L = some (.lst acc) ∧ acc.length ≤ j ∧ acc.isEmpty = (x.cps.toList.take j).all fun c => decide (c ∈ ("+-" : Str).cps.toList))
                  ⟨same_new nL _, [], upd_same, Nat.le_refl _, rfl⟩ (fun _ _ _ _ => True.intro) ?_ ?_⟩
                · rintro j y G2 G3 hj ⟨s2, acc, a1, a2, a3⟩ ⟨rfl, cc, hc, rfl⟩
                  have tk1 : ((x.cps.toList.take (j + 1)).all fun c => decide (c ∈ ("+-" : Str).cps.toList)) = (acc.isEmpty && decide (cc ∈ ("+-" : Str).cps.toList)) := by
                    rw [cps_take hc, List.all_append, ← a3]
                    simp
                  refine ⟨rfl, _, rfl, cc, _, rfl, rfl, _, rfl, ?_⟩
                  cases c7 : decide (cc ∈ ("+-" : Str).cps.toList) with
                  | true =>
                    refine ⟨s2, acc, a1, by omega, ?_⟩
                    rw [tk1, c7, Bool.and_true]
                  | false =>
                    refine ⟨_, rfl, acc, a1, by show acc.length < 2 ^ 24; have : x.cps.size = x.length := rfl; omega, same_grow nL s2 _, acc ++ [V.str ⟨#[cc]⟩], upd_same, by rw [List.length_append]; show acc.length + 1 ≤ j + 1; omega, ?_⟩
                    rw [tk1, c7]
                    simp
                · rintro G2 ⟨s2, acc, a1, a2, a3⟩
                  have e1 : x.cps.toList.take x.cps.size = x.cps.toList := by rw [← Array.length_toList, List.take_length]
                  rw [e1] at a3
                  refine ⟨by show 0 ≤ 2 ^ 24; decide, fun eA nE => ?_⟩
                  have sE := s1.trans (s2.trans (same_new nE (.lst [])))
                  refine ⟨L, eA, acc, rfl, rfl, same_new nE _ _ _ a1, upd_same, _, rfl, ?_⟩
                  generalize upd G2 eA (.lst []) = G3 at sE
                  cases c9 : acc.isEmpty with
                  | false => exact ⟨by show 2 ≤ 2 ^ 24; decide, fun t nt => nos (by rw [eS, ← a3, c9]) G3 sE t nt⟩
                  | true =>
                    have q := yes (by rw [eS, ← a3, c9])
                    obtain ⟨l, rfl⟩ : ∃ l : Nat, n = (l : Int) := ⟨n.toNat, by omega⟩
                    rw [Int.toNat_natCast] at q
                    refine ⟨_, rfl, b, _, 0, _, rfl, rfl, .inl (.inl (sE _ _ hb)), rfl, _, rfl, l, vr, r, rfl, h3.same sE, wr, by omega, by omega, fun v' G4 s4 hv => ?_⟩
                    have s14 := sE.trans s4
                    refine ⟨_, rfl, rfl, _, rfl, ite2 (fun c => ?_) (fun c => ?_)⟩
                    · have c' : v' = .non := of_decide_eq_true c
                      subst c'
                      generalize hE : errD l r = eD at q hv
                      cases hv
                      exact q _ _ s14 .non
                    · have c' : v' ≠ .non := fun z => c (decide_eq_true z)
                      refine ⟨_, rfl, by show 2 ≤ 2 ^ 24; decide, fun t nt => ?_⟩
                      have sT := s14.trans (same_new nt (.tup [.str "rule", v']))
                      generalize hE : errD l r = eD at q hv
                      refine q _ _ sT ?_
                      have hv' := hv.same (same_new nt (.tup [.str "rule", v']))
                      cases hv with
                      | non => exact absurd rfl c'
                      | bl _ => exact .tup upd_same (.cons (.str _) (.cons hv' .nil))
                      | int _ => exact .tup upd_same (.cons (.str _) (.cons hv' .nil))
                      | str _ => exact .tup upd_same (.cons (.str _) (.cons hv' .nil))
                      | lst _ _ => exact .tup upd_same (.cons (.str _) (.cons hv' .nil))
                      | tup _ _ => exact .tup upd_same (.cons (.str _) (.cons hv' .nil))
                      | dic _ => exact .tup upd_same (.cons (.str _) (.cons hv' .nil))
            | int i => exact iteT ⟨by show 2 ≤ 2 ^ 24; decide, fun t nt => nos rfl G1 s1 t nt⟩
            | bl b => exact iteT ⟨by show 2 ≤ 2 ^ 24; decide, fun t nt => nos rfl G1 s1 t nt⟩
            | non => exact iteT ⟨by show 2 ≤ 2 ^ 24; decide, fun t nt => nos rfl G1 s1 t nt⟩
            | tup _ _ => exact iteT ⟨by show 2 ≤ 2 ^ 24; decide, fun t nt => nos rfl G1 s1 t nt⟩
            | lst _ _ => exact iteT ⟨by show 2 ≤ 2 ^ 24; decide, fun t nt => nos rfl G1 s1 t nt⟩
            | dic _ => exact iteT ⟨by show 2 ≤ 2 ^ 24; decide, fun t nt => nos rfl G1 s1 t nt⟩
        · rw [e0]
          have es : serr (.tuple [k, sg, r]) = .tuple [.str "kind", .str e] := by
            unfold serr
            simp only [e0]
          refine ⟨rfl, _, rfl, ite2 (fun _ => ?_) (fun c => absurd rfl c)⟩
          refine ⟨_, rfl, vk, k, rfl, h1.same s1, wk, fun G2 s2 => ?_⟩
          rw [e0]
          exact ⟨by show 2 ≤ 2 ^ 24; decide, fun t nt => q _ _ ((s1.trans s2).trans (same_new nt _)) (by rw [es]; exact .tup upd_same (.cons (.str _) (.cons (.str _) .nil)))⟩
  | int i => exact iteT ⟨by show 2 ≤ 2 ^ 24; decide, fun t nt => no rfl t nt⟩
  | bl b => exact iteT ⟨by show 2 ≤ 2 ^ 24; decide, fun t nt => no rfl t nt⟩
  | non => exact iteT ⟨by show 2 ≤ 2 ^ 24; decide, fun t nt => no rfl t nt⟩
  | str x => exact iteT ⟨by show 2 ≤ 2 ^ 24; decide, fun t nt => no rfl t nt⟩
  | lst _ _ => exact iteT ⟨by show 2 ≤ 2 ^ 24; decide, fun t nt => no rfl t nt⟩
  | dic _ => exact iteT ⟨by show 2 ≤ 2 ^ 24; decide, fun t nt => no rfl t nt⟩
end
end K17
namespace K17
open PySem GL GZ KW KR GU KU KG
open L2 hiding isNon
open KC hiding rLenS call_lenS
open KX (Small)
abbrev sKind : Stmt := top 23
def spKind (K : PySem.W.Frag) : Sp := fun vs H Q _ => ∃ (d c : Addr) (l n m : Nat), vs = [.ref d, .int l, .int n] ∧ Deck H d c m ∧ m ≤ 900000000 ∧ 1 ≤ l ∧ l ≤ 4 ∧ 1 ≤ n ∧ n ≤ 4 ∧
  ∀ (a ra ea : Addr) (us : List V) (bs : List Bool) (H' : Hp), KindAt K (Hd d c H') a ra ea l us bs → Deck H' d c (m + 60) → Same (Hd d c H) (Hd d c H') → Q (.ref a) H'
abbrev NKi : List Str := ["_law_deck_here", "_law_letters", "_law_most", "_law_many", "_law_rows", "_law_ends", "_law_k", "_law_row", "_law_j"]
section
variable {P : Program} {w : World} {K : PySem.W.Frag} {mg : Str → Option Value} {base : Heap}
theorem scKi : FnScope ["_law_deck_here", "_law_letters", "_law_most", "_law_many", "_law_rows", "_law_ends", "_law_k", "_law_row", "_law_j"] ["_law_deck_here", "_law_letters", "_law_most"] (defScope sKind) := ⟨rfl, rfl, rfl, by decide +kernel, rfl, by decide +kernel, by decide +kernel⟩
theorem ok_kind {f fD : Addr} {fd fdD : FuncData} (F : Fun K "_law_kind" "_law_kind" sKind f fd) (T : Txt mg) (W : Dfn P w K mg base "_law_draw" 1 fD fdD ["_law_deck_here", "_law_many"] spDraw) :
    FnOk P w K mg base CX0 2 f fd ["_law_deck_here", "_law_letters", "_law_most"] (spKind K) := by
  refine F.ok scKi (fun vs H Q E h => ?_) (fun cdv A outer s H vs Q E hr h => ?_)
  · obtain ⟨d, c, l, n, m, rfl, _⟩ := h
    rfl
  obtain ⟨d, c, l, n, m, rfl, D, hm, l0, l1, n0, n1, q⟩ := h
  refine ⟨_, pss_cons (ps_asg (pe_tup (pa_cons (pe_op op_add pe_int (pe_call W.ok hr rfl W.m W.kp W.b .nil pass0 (pa_cons (pv 0) (pa_cons (pv 2) pa_nil)))) (pa_cons (pe_lst pa_nil) (pa_cons (pe_lst pa_nil) pa_nil))))
      (pg_tup (by rfl) (pgs_cons (pg_name (i := 3) scKi.nd rfl (Or.inr rfl)) (pgs_cons (pg_name (i := 4) scKi.nd rfl (Or.inl rfl)) (pgs_cons (pg_name (i := 5) scKi.nd rfl (Or.inl rfl)) pgs_nil)))))
    (pss_cons (ps_for PassesOwn.never rfl (pi_range1 rfl T.c.range (pa_cons (pv 3) pa_nil)) (pg_name (i := 6) scKi.nd rfl (Or.inl rfl))
      (pss_cons (ps_setLc (i := 7) (own := [("_law_j", 8)]) (g := gName 8) (tt := tYes) rfl scKi.nd rfl rfl (sw_true rfl rfl rfl (by decide +kernel)) (pi_range1 rfl T.c.range (pa_cons (pv 1) pa_nil))
        (blkOk_by (own := [("_law_j", 8)]) (N := NKi) (sc := defScope sKind) (by decide +kernel)) (fun _ _ _ _ _ => pg_name (i := 8) scKi.nd rfl (Or.inl rfl)) (fun _ _ _ _ _ => pts_nil)
        (fun _ _ _ _ _ => pe_ifExp (pt_cmpR op_eq (pe_call W.ok hr rfl W.m W.kp W.b .nil pass0 (pa_cons (pv 0) (pa_cons pe_int pa_nil))) pe_int (nomark _)) pe_non (pe_call W.ok hr rfl W.m W.kp W.b .nil pass0 (pa_cons (pv 0) (pa_cons (pv 3) pa_nil)))))
      (pss_cons (ps_expr (pe_bm PySem.F.plainAttrs_list PySem.F.slot_list_append PySem.F.type_list_append mt_append (pv 4) (pa_cons (pe_callTy call_tuple_of (by rfl) T.c.tuple (by decide +kernel) (pa_cons (pv 7) pa_nil)) pa_nil)))
      (pss_one (ps_expr (pe_bm PySem.F.plainAttrs_list PySem.F.slot_list_append PySem.F.type_list_append mt_append (pv 5) (pa_cons (pe_cmp (pc_gt (pe_call W.ok hr rfl W.m W.kp W.b .nil pass0 (pa_cons (pv 0) (pa_cons pe_int pa_nil))) pe_int) rfl) pa_nil)))))))
    (pss_one (ps_ret (pe_tup (pa_cons (pv 1) (pa_cons (pe_callTy call_tuple_of (by rfl) T.c.tuple (by decide +kernel) (pa_cons (pv 4) pa_nil)) (pa_cons (pe_callTy call_tuple_of (by rfl) T.c.tuple (by decide +kernel) (pa_cons (pv 5) pa_nil)) pa_nil))))))), ?_⟩
  refine ⟨_, rfl, _, rfl, d, c, n, m, rfl, D, by omega, by omega, by omega, fun r G0 r0 r1 D0 s0 => ?_⟩
  obtain ⟨k, rfl⟩ : ∃ k : Nat, r = (k : Int) := ⟨r.toNat, by omega⟩
  refine ⟨_, _, rfl, rfl, by show 0 ≤ 2 ^ 24; decide, fun R nR => ⟨by show 0 ≤ 2 ^ 24; decide, fun E1 nE => ⟨by show 3 ≤ 2 ^ 24; decide, fun T1 nT => ?_⟩⟩⟩
  have nHR : Hd d c H R = none := s0.free (hd_none nR)
  have nE0 : G0 E1 = none := by
    by_cases e : E1 = R
    · rw [e]; exact nR
    · rw [upd_ne e] at nE; exact nE
  have nHE : Hd d c H E1 = none := s0.free (hd_none nE0)
  have D1 := (D0.new nR (.lst [])).new nE (.lst [])
  have fR := D0.free nR
  have fE := (D0.new nR (.lst [])).free nE
  have neRE : E1 ≠ R := fun e => by rw [e, upd_same] at nE; cases nE
  have gR : (upd (upd G0 R (.lst [])) E1 (.lst [])) R = some (.lst []) := by rw [upd_ne neRE.symm]; exact upd_same
  have gE : (upd (upd G0 R (.lst [])) E1 (.lst [])) E1 = some (.lst ([].map V.bl)) := upd_same
  have s1 : Same (Hd d c H) (Hd d c (upd (upd G0 R (.lst [])) E1 (.lst []))) := s0.trans ((hd_new nR _).trans (hd_new nE _))
  generalize upd (upd G0 R (.lst [])) E1 (.lst []) = G1 at nT D1 gR gE s1
  have D2 := D1.new nT (.tup [V.int (1 + k), V.ref R, V.ref E1])
  have sT := same_new nT (.tup [V.int (1 + k), V.ref R, V.ref E1])
  have gT : upd G1 T1 (.tup [V.int (1 + k), V.ref R, V.ref E1]) T1 = some (.tup [V.int (1 + k), V.ref R, V.ref E1]) := upd_same
  have gR := sT _ _ gR
  have gE := sT _ _ gE
  have s2 := s1.trans (hd_new nT (.tup [V.int (1 + k), V.ref R, V.ref E1]))
  generalize upd G1 T1 (.tup [V.int (1 + k), V.ref R, V.ref E1]) = G2 at D2 gT gR gE s2
  refine ⟨T1, _, rfl, .inl (.inl gT), rfl, _, _, rfl, _, _, rfl, _, _, rfl, rfl, ?_⟩
  have hk : ((1 : Int) + k) = ((1 + k : Nat) : Int) := by omega
  rw [hk]
  refine ⟨_, rfl, (1 + k : Nat), rfl, by omega, by omega, ?_⟩
  refine for_range (lo := 0) (n := 1 + k) (fun i σ G => ∃ (k6 k7 : Option V) (us : List V) (bs : List Bool), σ = [some (.ref d), some (.int l), some (.int n), some (.int (1 + k : Nat)), some (.ref R), some (.ref E1), k6, k7, none] ∧ Deck G d c (m + 1 + 9 * i) ∧
      Same (Hd d c H) (Hd d c G) ∧ G R = some (.lst us) ∧ G E1 = some (.lst (bs.map V.bl)) ∧ us.length = i ∧ bs.length = i ∧ ∀ u ∈ us, RowAt K (Hd d c G) l u)
    ⟨none, none, [], [], rfl, D2, s2, gR, gE, rfl, rfl, fun u h => nomatch h⟩ ?_ ?_
  · rintro i σ G4 hi ⟨k6, k7, us, bs, rfl, D4, s4, g4, e4, l4, b4, r4⟩
    refine ⟨_, rfl, l, rfl, by omega, by omega, fun L nL => lc_range (lo := 0) (n := l) (fun j G5 => Deck G5 d c (m + 1 + 9 * i + 2 * j) ∧ Same (Hd d c G4) (Hd d c G5) ∧ ∃ (ys : List V), G5 L = some (.lst ys) ∧ ys.length = j ∧ Ga K emp (44 * j) ys)
      ⟨D4.new nL _, hd_new nL _, [], upd_same, rfl, Ga.nil⟩ ?_ ?_⟩
    · rintro j G5 hj ⟨D5, s5, ys, y1, y2, y3⟩
      have fL := D4.free nL
      have nHL : Hd d c G4 L = none := hd_none nL
      have grow : ∀ (G6 : Hp) (kk : Nat) (v : V), kk ≤ m + 1 + 9 * i + 2 * (j + 1) → Deck G6 d c kk → Same (Hd d c G5) (Hd d c G6) → Gv K emp 42 v →
          ∃ acc, G6 L = some (.lst acc) ∧ acc.length < sizeLine ∧ Deck (upd G6 L (.lst (acc ++ [v]))) d c (m + 1 + 9 * i + 2 * (j + 1)) ∧ Same (Hd d c G4) (Hd d c (upd G6 L (.lst (acc ++ [v])))) ∧
            ∃ (ys : List V), upd G6 L (.lst (acc ++ [v])) L = some (.lst ys) ∧ ys.length = j + 1 ∧ Ga K emp (44 * (j + 1)) ys := by
        intro G6 kk v hk D6 s6 hv
        refine ⟨ys, hd_sub _ _ (s6 _ _ (hd_of y1 fL.1 fL.2)), ?_, (D6.mono hk).put fL.1 fL.2 _, hd_grow nHL (s5.trans s6) _, ys ++ [v], upd_same, by rw [List.length_append, y2]; rfl, (y3.append (Ga.cons hv Ga.nil)).mono (by omega)⟩
        rw [y2]
        show j < 2 ^ 24
        omega
      refine ⟨rfl, _, rfl, d, c, 5, _, rfl, D5, by omega, by omega, by omega, fun r G6 r0 r1 D6 s6 => ⟨rfl, _, rfl, ite2 (fun c1 => ?_) (fun c1 => ?_)⟩⟩
      · exact grow G6 _ _ (by omega) D6 s6 (Gv.non.mono (by decide))
      · refine ⟨_, rfl, _, rfl, d, c, (1 + k : Nat), _, rfl, D6, by omega, by omega, by omega, fun r2 G7 r3 r4 D7 s7 => ?_⟩
        exact grow G7 _ _ (by omega) D7 (s6.trans s7) (Gv.int r2 (by omega))
    · rintro G5 ⟨D5, s5, ys, y1, y2, y3⟩
      have fRd := D4.free (p := R)
      have g4h : Hd d c G4 R = some (.lst us) := hd_of g4 fR.1 fR.2
      have e4h : Hd d c G4 E1 = some (.lst (bs.map V.bl)) := hd_of e4 fE.1 fE.2
      have g5 := hd_sub _ _ (s5 _ _ g4h)
      have e5 := hd_sub _ _ (s5 _ _ e4h)
      refine ⟨_, rfl, .inl ⟨rfl, _, .inl (.inl g5)⟩, _, rfl, L, ys, rfl, .inl ⟨.inl (.inl y1), fun t nt => ?_⟩⟩
      have fT := D5.free nt
      have s6 := hd_new (d := d) (c := c) nt (.tup ys)
      have D6 := D5.new nt (.tup ys)
      have g6 := same_new nt (.tup ys) _ _ g5
      have e6 := same_new nt (.tup ys) _ _ e5
      have gt : Hd d c (upd G5 t (.tup ys)) t = some (.tup ys) := hd_of upd_same fT.1 fT.2
      generalize upd G5 t (.tup ys) = G6 at s6 D6 g6 e6 gt
      have row1 : RowAt K (Hd d c G6) l (.ref t) := ⟨t, ys, rfl, gt, y2, y3⟩
      refine ⟨R, us, .ref t, rfl, rfl, g6, by rw [l4]; show i < 2 ^ 24; omega, ?_⟩
      have rows7 : ∀ u ∈ us ++ [V.ref t], RowAt K (Hd d c (upd G6 R (.lst (us ++ [V.ref t])))) l u := fun u hu => by
        have h6 : RowAt K (Hd d c G6) l u := by
          rcases List.mem_append.mp hu with hu | hu
          · exact (r4 u hu).same (s5.trans s6)
          · rw [List.mem_singleton.mp hu]; exact row1
        obtain ⟨t', ys', x1, x2, x3⟩ := h6
        refine ⟨t', ys', x1, ?_, x3⟩
        obtain ⟨z1, z2, z3⟩ := hd_some x2
        refine hd_of ?_ z2 z3
        rw [upd_ne (fun z => by rw [z, g6] at z1; cases z1)]
        exact z1
      have D7 := D6.put fR.1 fR.2 (.lst (us ++ [V.ref t]))
      have s7 : Same (Hd d c H) (Hd d c (upd G6 R (.lst (us ++ [V.ref t])))) := hd_grow nHR (s4.trans (s5.trans s6)) _
      have g7 : (upd G6 R (.lst (us ++ [V.ref t]))) R = some (.lst (us ++ [V.ref t])) := upd_same
      have e7 : (upd G6 R (.lst (us ++ [V.ref t]))) E1 = some (.lst (bs.map V.bl)) := by rw [upd_ne neRE]; exact e6
      generalize upd G6 R (.lst (us ++ [V.ref t])) = G7 at rows7 D7 s7 g7 e7
      refine ⟨_, rfl, .inl ⟨rfl, _, .inl (.inl e7)⟩, _, rfl, d, c, 3, _, rfl, D7, by omega, by decide, by decide, fun r G8 r0 r1 D8 s8 => ?_⟩
      have e8 := hd_sub _ _ (s8 _ _ (hd_of e7 fE.1 fE.2))
      have g8 := hd_sub _ _ (s8 _ _ (hd_of g7 fR.1 fR.2))
      refine ⟨_, _, rfl, rfl, E1, bs.map V.bl, _, rfl, rfl, e8, by rw [List.length_map, b4]; show i < 2 ^ 24; omega, ?_⟩
      refine ⟨_, _, us ++ [V.ref t], bs ++ [decide (r > 0)], rfl, (D8.mono (by omega)).put fE.1 fE.2 _, hd_grow nHE (s7.trans s8) _, by rw [upd_ne neRE.symm]; exact g8, by rw [upd_same, List.map_append]; rfl, by rw [List.length_append, l4]; rfl, by rw [List.length_append, b4]; rfl, ?_⟩
      intro u hu
      obtain ⟨t', ys', x1, x2, x3⟩ := (rows7 u hu).same s8
      refine ⟨t', ys', x1, ?_, x3⟩
      obtain ⟨z1, z2, z3⟩ := hd_some x2
      refine hd_of ?_ z2 z3
      rw [upd_ne (fun z => by rw [z, e8] at z1; cases z1)]
      exact z1
  · rintro σ G4 ⟨k6, k7, us, bs, rfl, D4, s4, g4, e4, l4, b4, r4⟩
    refine ⟨_, rfl, _, rfl, R, us, rfl, .inl ⟨.inl (.inl g4), fun t nt => ?_⟩⟩
    have fT := D4.free nt
    have D5 := D4.new nt (.tup us)
    have s5 := hd_new (d := d) (c := c) nt (.tup us)
    have g5 : Hd d c (upd G4 t (.tup us)) t = some (.tup us) := hd_of upd_same fT.1 fT.2
    have e5 := same_new nt (.tup us) _ _ e4
    generalize upd G4 t (.tup us) = G5 at D5 s5 g5 e5
    refine ⟨_, rfl, E1, bs.map V.bl, rfl, .inl ⟨.inl (.inl e5), fun t2 nt2 => ?_⟩⟩
    have fT2 := D5.free nt2
    have D6 := D5.new nt2 (.tup (bs.map V.bl))
    have s6 := hd_new (d := d) (c := c) nt2 (.tup (bs.map V.bl))
    have g6 : Hd d c (upd G5 t2 (.tup (bs.map V.bl))) t2 = some (.tup (bs.map V.bl)) := hd_of upd_same fT2.1 fT2.2
    generalize upd G5 t2 (.tup (bs.map V.bl)) = G6 at D6 s6 g6
    refine ⟨by show 3 ≤ 2 ^ 24; decide, fun p np => ?_⟩
    have fP := D6.free np
    have s7 := hd_new (d := d) (c := c) np (.tup [V.int l, V.ref t, V.ref t2])
    have s57 := s5.trans (s6.trans s7)
    exact q p t t2 us bs _ ⟨hd_of upd_same fP.1 fP.2, s7 _ _ (s6 _ _ g5), s7 _ _ g6, fun u hu => (r4 u hu).same s57, by omega, by omega, by omega, l0, l1⟩ ((D6.new np _).mono (by omega)) (s4.trans s57)
end
end K17
namespace K17
open PySem GL GZ KW KR GU KU KG
open L2 hiding isNon
open KC hiding rLenS call_lenS
open KX (Small inV_strs flat_strs)
abbrev sSgn : Stmt := top 24
abbrev sPc : Stmt := top 25
abbrev sRule : Stmt := top 26
abbrev sScheme : Stmt := top 27
/-- a text of at most so many plain letters -/
def Wd (n : Nat) (x : Str) : Prop := x.length ≤ n ∧ ∀ c ∈ x.cps.toList, c < 1000
theorem Wd.gv {K : PySem.W.Frag} {H : Hp} {n : Nat} {x : Str} (h : Wd n x) : Gv K H (10 * n + 2) (.str x) := Gv.str (by
  rw [PyData.shown_str]
  have := StrLaws.reprText_len x fun c hc => by have := h.2 c hc; omega
  have := h.1
  omega)
theorem Wd.mono {n m : Nat} {x : Str} (h : Wd n x) (e : n ≤ m) : Wd m x := ⟨Nat.le_trans h.1 e, h.2⟩
theorem Wd.cut {n : Nat} {x : Str} (h : Wd n x) (lo hi : Option Int) : Wd n (cutS x lo hi) := by
  unfold cutS
  refine ⟨?_, fun c hc => h.2 c (List.mem_of_mem_drop (List.mem_of_mem_take hc))⟩
  show (List.toArray _).size ≤ n
  rw [List.size_toArray]
  have h2 := List.length_take_le' (HT.sIx x.length x.length hi - HT.sIx x.length 0 lo) (x.cps.toList.drop (HT.sIx x.length 0 lo))
  have h4 : (x.cps.toList.drop (HT.sIx x.length 0 lo)).length ≤ x.cps.toList.length := by rw [List.length_drop]; omega
  have h5 : x.cps.toList.length = x.length := by simp [Str.length]
  have := h.1
  omega
theorem Wd.app {n m : Nat} {x y : Str} (h : Wd n x) (k : Wd m y) : Wd (n + m) (x ++ y) := by
  refine ⟨?_, fun c hc => ?_⟩
  · have e : (x ++ y).length = x.length + y.length := by
      show (x.cps ++ y.cps).size = _
      rw [Array.size_append]; rfl
    have := h.1
    have := k.1
    omega
  · have hc' : c ∈ (x.cps ++ y.cps).toList := hc
    rw [Array.toList_append] at hc'
    exact (List.mem_append.mp hc').elim (h.2 c) (k.2 c)
theorem wd_of {n : Nat} {cs : List Nat} (h : cs.length ≤ n) (k : ∀ c ∈ cs, c < 1000) : Wd n ⟨cs.toArray⟩ := ⟨by show cs.toArray.size ≤ n; rw [List.size_toArray]; exact h, k⟩
def spSgn : Sp := fun vs H Q _ => ∃ (d c : Addr) (l m : Nat), vs = [.ref d, .int l] ∧ Deck H d c m ∧ m ≤ 900000000 ∧ l ≤ 4 ∧
  ∀ (x : Str) (G : Hp), Wd l x → Deck G d c (m + 4) → Same (Hd d c H) (Hd d c G) → Q (.str x) G
def spPc : Sp := fun vs H Q _ => ∃ (d c : Addr) (l n m : Nat), vs = [.ref d, .int l, .int n] ∧ Deck H d c m ∧ m ≤ 900000000 ∧ 1 ≤ l ∧ l ≤ 4 ∧ n ≤ 5 ∧
  ∀ (x : Str) (G : Hp), Wd n x → Deck G d c (m + 5) → Same (Hd d c H) (Hd d c G) → Q (.str x) G
def spRl (K : PySem.W.Frag) : Sp := fun vs H Q _ => ∃ (d c : Addr) (l m : Nat), vs = [.ref d, .int l, .int 6] ∧ Deck H d c m ∧ m ≤ 800000000 ∧ 1 ≤ l ∧ l ≤ 4 ∧
  ∀ (r : Addr) (us : List V) (G : Hp), Hd d c G r = some (.tup us) → us.length ≤ 6 → Ga K (Hd d c G) 600 us → Deck G d c (m + 100) → Same (Hd d c H) (Hd d c G) → Q (.ref r) G
/-- a drawn pair -/
def PairAt (G : Hp) (u : V) : Prop := ∃ (t : Addr) (x y : Str), u = .ref t ∧ G t = some (.tup [.str x, .str y]) ∧ Wd 3 x ∧ Wd 3 y
theorem PairAt.same {H G : Hp} {u : V} (h : PairAt H u) (s : Same H G) : PairAt G u := let ⟨t, x, y, a, b, c⟩ := h; ⟨t, x, y, a, s _ _ b, c⟩
theorem pairs_ga {K : PySem.W.Frag} {G : Hp} : ∀ us : List V, (∀ u ∈ us, PairAt G u) → Ga K G (us.length * 73) us
  | [], _ => Ga.nil.mono (Nat.zero_le _)
  | u :: us, h => by
    obtain ⟨t, x, y, rfl, b, c, e⟩ := h u List.mem_cons_self
    have h1 : Gv K G 71 (.ref t) := Gv.tup b (Ga.cons c.gv (Ga.cons e.gv Ga.nil))
    exact (Ga.cons h1 (pairs_ga us fun v m => h v (List.mem_cons_of_mem _ m))).mono (by rw [List.length_cons, Nat.add_mul, Nat.one_mul]; omega)
section
variable {P : Program} {w : World} {K : PySem.W.Frag} {mg : Str → Option Value} {base : Heap}
theorem ok_oneT {f fD : Addr} {fd fdD : FuncData} (F : Fun K "_law_one" "_law_one" sOne f fd) (T : Txt mg) (W : Dfn P w K mg base "_law_draw" 1 fD fdD ["_law_deck_here", "_law_many"] spDraw) :
    FnOk P w K mg base CX0 2 f fd ["_law_deck_here", "_law_items"] spOneT := by
  refine F.ok scOne (fun vs H Q E h => ?_) (fun cdv A outer s H vs Q E hr h => ?_)
  · obtain ⟨d, c, z, m, rfl, _⟩ := h
    rfl
  obtain ⟨d, c, z, m, rfl, D, hm, x0, x1, q⟩ := h
  have zl : z.length ≤ 2 ^ 24 := by omega
  refine ⟨_, pss_one (ps_ret (pe_ix ix_str (pv 1) (pe_call W.ok hr rfl W.m W.kp W.b .nil pass0 (pa_cons (pv 0) (pa_cons (pe_callB call_len_str (by rfl) T.c.len PySem.boot_len (pa_cons (pv 1) pa_nil)) pa_nil))) (fun _ _ => rfl))), ?_⟩
  refine ⟨_, rfl, _, rfl, _, rfl, _, rfl, zl, d, c, (z.length : Int), m, rfl, D, hm, by omega, by omega, fun r G r0 r1 D2 s2 => ?_⟩
  obtain ⟨j, rfl⟩ : ∃ j : Nat, r = (j : Int) := ⟨r.toNat, by omega⟩
  have jl : j < z.cps.toList.length := by
    rw [Array.length_toList]
    show j < z.length
    omega
  obtain ⟨k, hk⟩ : ∃ k, z.cps.toList[j]? = some k := ⟨_, List.getElem?_eq_getElem jl⟩
  exact ⟨_, _, k, rfl, rfl, zl, atI_nat hk, q k G (List.mem_of_getElem? hk) D2 s2⟩
theorem scSg : FnScope ["_law_deck_here", "_law_letters", "_law_k"] ["_law_deck_here", "_law_letters"] (defScope sSgn) := ⟨rfl, rfl, rfl, by decide +kernel, rfl, by decide +kernel, by decide +kernel⟩
theorem ok_signs {f fO : Addr} {fd fdO : FuncData} (F : Fun K "_law_signs" "_law_signs" sSgn f fd) (T : Txt mg)
    (O : Dfn P w K mg base "_law_one" 2 fO fdO ["_law_deck_here", "_law_items"] spOneT) : FnOk P w K mg base CX0 3 f fd ["_law_deck_here", "_law_letters"] spSgn := by
  refine F.ok scSg (fun vs H Q E h => ?_) (fun cdv A outer s H vs Q E hr h => ?_)
  · obtain ⟨d, c, l, m, rfl, _⟩ := h
    rfl
  obtain ⟨d, c, l, m, rfl, D, hm, l4, q⟩ := h
  refine ⟨_, pss_one (ps_ret (pe_join pe_str (pe_lc (own := [("_law_k", 2)]) (g := gName 2) (tt := tYes) rfl scSg.nd (pi_range1 rfl T.c.range (pa_cons (pv 1) pa_nil))
      (blkOk_by (own := [("_law_k", 2)]) (N := ["_law_deck_here", "_law_letters", "_law_k"]) (sc := defScope sSgn) (by decide +kernel)) (fun _ _ _ _ _ => pg_name (i := 2) scSg.nd rfl (Or.inl rfl)) (fun _ _ _ _ _ => pts_nil)
      (fun _ _ _ _ _ => pe_call O.ok hr rfl O.m O.kp O.b .nil pass0 (pa_cons (pv 0) (pa_cons pe_str pa_nil)))))), ?_⟩
  refine ⟨⟨_, rfl⟩, _, rfl, l, rfl, by omega, by omega, fun L nL => lc_range (lo := 0) (n := l) (fun i G' => Deck G' d c (m + i) ∧ Same (Hd d c H) (Hd d c G') ∧ ∃ u : List Nat, G' L = some (.lst ((u.map fun k => (⟨#[k]⟩ : Str)).map V.str)) ∧ u.length = i ∧ ∀ k ∈ u, k < 1000)
    ⟨D.new nL _, hd_new nL _, [], upd_same, rfl, fun j h => nomatch h⟩ ?_ ?_⟩
  · rintro i G' hi ⟨D2, s2, u, u1, u2, u3⟩
    have fL := D.free nL
    refine ⟨rfl, _, rfl, d, c, "+-", m + i, rfl, D2, by omega, by decide, by decide, fun j G2 hj D3 s3 => ?_⟩
    refine ⟨_, hd_sub _ _ (s3 _ _ (hd_of u1 fL.1 fL.2)), ?_, D3.put fL.1 fL.2 _, hd_grow (hd_none nL) (s2.trans s3) _, u ++ [j], ?_, by rw [List.length_append, u2]; rfl, ?_⟩
    · rw [List.length_map, List.length_map, u2]
      show i < 2 ^ 24
      omega
    · rw [upd_same, List.map_append, List.map_append]; rfl
    · intro k hk
      rcases List.mem_append.mp hk with hk | hk
      · exact u3 k hk
      · rw [List.mem_singleton.mp hk]
        have hj' : j ∈ [43, 45] := hj
        rcases List.mem_cons.mp hj' with rfl | hj'
        · decide
        · rw [List.mem_singleton.mp hj']; decide
  · rintro G' ⟨D2, s2, u, u1, u2, u3⟩
    refine ⟨_, L, _, rfl, rfl, .inl (.inl (.inl u1)), ?_, ?_⟩
    · rw [len_c]
      simp only [List.length_map]
      show u.length + u.length * 0 ≤ 16777216
      omega
    · rw [join_c]
      exact q _ G' (wd_of (by omega) u3) (D2.mono (by omega)) s2
theorem scPc : FnScope ["_law_deck_here", "_law_letters", "_law_size", "_law_k"] ["_law_deck_here", "_law_letters", "_law_size"] (defScope sPc) := ⟨rfl, rfl, rfl, by decide +kernel, rfl, by decide +kernel, by decide +kernel⟩
theorem ok_pc {f fO : Addr} {fd fdO : FuncData} (F : Fun K "_law_piece" "_law_piece" sPc f fd) (T : Txt mg)
    (O : Dfn P w K mg base "_law_one" 2 fO fdO ["_law_deck_here", "_law_items"] spOneT) : FnOk P w K mg base CX0 3 f fd ["_law_deck_here", "_law_letters", "_law_size"] spPc := by
  refine F.ok scPc (fun vs H Q E h => ?_) (fun cdv A outer s H vs Q E hr h => ?_)
  · obtain ⟨d, c, l, n, m, rfl, _⟩ := h
    rfl
  obtain ⟨d, c, l, n, m, rfl, D, hm, l1, l4, n5, q⟩ := h
  refine ⟨_, pss_one (ps_ret (pe_join pe_str (pe_lc (own := [("_law_k", 3)]) (g := gName 3) (tt := tYes) rfl scPc.nd (pi_range1 rfl T.c.range (pa_cons (pv 2) pa_nil))
      (blkOk_by (own := [("_law_k", 3)]) (N := ["_law_deck_here", "_law_letters", "_law_size", "_law_k"]) (sc := defScope sPc) (by decide +kernel)) (fun _ _ _ _ _ => pg_name (i := 3) scPc.nd rfl (Or.inl rfl)) (fun _ _ _ _ _ => pts_nil)
      (fun _ _ _ _ _ => pe_call O.ok hr rfl O.m O.kp O.b .nil pass0 (pa_cons (pv 0) (pa_cons (pe_slice sl_str pe_str po_none (po_some (pv 1))) pa_nil)))))), ?_⟩
  refine ⟨⟨_, rfl⟩, _, rfl, n, rfl, by omega, by omega, fun L nL => lc_range (lo := 0) (n := n) (fun i G' => Deck G' d c (m + i) ∧ Same (Hd d c H) (Hd d c G') ∧ ∃ u : List Nat, G' L = some (.lst ((u.map fun k => (⟨#[k]⟩ : Str)).map V.str)) ∧ u.length = i ∧ ∀ k ∈ u, k < 1000)
    ⟨D.new nL _, hd_new nL _, [], upd_same, rfl, fun j h => nomatch h⟩ ?_ ?_⟩
  · rintro i G' hi ⟨D2, s2, u, u1, u2, u3⟩
    have fL := D.free nL
    refine ⟨rfl, _, rfl, _, rfl, l, rfl, _, rfl, by decide, d, c, wS (List.range l), m + i, ?_, D2, by omega, by rw [wS_len, List.length_range]; omega, by rw [wS_len, List.length_range]; omega, fun j G2 hj D3 s3 => ?_⟩
    · show [V.ref d, V.str (cutS ("abcd" : Str) none (some (l : Int)))] = _
      rw [cut_abcd l l1 l4]
    refine ⟨_, hd_sub _ _ (s3 _ _ (hd_of u1 fL.1 fL.2)), ?_, D3.put fL.1 fL.2 _, hd_grow (hd_none nL) (s2.trans s3) _, u ++ [j], ?_, by rw [List.length_append, u2]; rfl, ?_⟩
    · rw [List.length_map, List.length_map, u2]
      show i < 2 ^ 24
      omega
    · rw [upd_same, List.map_append, List.map_append]; rfl
    · intro k hk
      rcases List.mem_append.mp hk with hk | hk
      · exact u3 k hk
      · rw [List.mem_singleton.mp hk]
        rw [wS_list] at hj
        obtain ⟨z, hz, rfl⟩ := List.mem_map.mp hj
        have := List.mem_range.mp hz
        omega
  · rintro G' ⟨D2, s2, u, u1, u2, u3⟩
    refine ⟨_, L, _, rfl, rfl, .inl (.inl (.inl u1)), ?_, ?_⟩
    · rw [len_c]
      simp only [List.length_map]
      show u.length + u.length * 0 ≤ 16777216
      omega
    · rw [join_c]
      exact q _ G' (wd_of (by omega) u3) (D2.mono (by omega)) s2
abbrev NRl : List Str := ["_law_deck_here", "_law_letters", "_law_most", "_law_found", "_law_taken", "_law_k", "_law_size", "_law_one_here", "_law_other"]
theorem scRl : FnScope ["_law_deck_here", "_law_letters", "_law_most", "_law_found", "_law_taken", "_law_k", "_law_size", "_law_one_here", "_law_other"] ["_law_deck_here", "_law_letters", "_law_most"] (defScope sRule) := ⟨rfl, rfl, rfl, by decide +kernel, rfl, by decide +kernel, by decide +kernel⟩
theorem ok_rule {f fD fO fP : Addr} {fd fdD fdO fdP : FuncData} (F : Fun K "_law_rule" "_law_rule" sRule f fd) (T : Txt mg) (W : Dfn P w K mg base "_law_draw" 1 fD fdD ["_law_deck_here", "_law_many"] spDraw)
    (O : Dfn P w K mg base "_law_one" 2 fO fdO ["_law_deck_here", "_law_items"] spOne) (PC : Dfn P w K mg base "_law_piece" 3 fP fdP ["_law_deck_here", "_law_letters", "_law_size"] spPc) :
    FnOk P w K mg base CX0 4 f fd ["_law_deck_here", "_law_letters", "_law_most"] (spRl K) := by
  refine F.ok scRl (fun vs H Q E h => ?_) (fun cdv A outer s H vs Q E hr h => ?_)
  · obtain ⟨d, c, l, m, rfl, _⟩ := h
    rfl
  obtain ⟨d, c, l, m, rfl, D, hm, l1, l4, q⟩ := h
  have hr1 : Room 1 _ := hr.mono (by decide)
  have hr2 : Room 2 _ := hr.mono (by decide)
  refine ⟨_, pss_cons (ps_par (i := 3) (j := 4) (by rfl) scRl.nd rfl rfl (by decide) rfl rfl (pa_cons (pe_lst pa_nil) (pa_cons (pe_lst pa_nil) pa_nil)) (by rfl))
    (pss_cons (ps_for PassesOwn.never rfl (pi_range1 rfl T.c.range (pa_cons (pe_call W.ok hr1 rfl W.m W.kp W.b .nil pass0 (pa_cons (pv 0) (pa_cons (pe_op op_add (pv 2) pe_int) pa_nil))) pa_nil)) (pg_name (i := 5) scRl.nd rfl (Or.inl rfl))
      (pss_cons (ps_set (i := 6) scRl.nd rfl (Or.inl rfl) (pe_call O.ok hr2 rfl O.m O.kp O.b .nil pass0 (pa_cons (pv 0) (pa_cons (pe_lst (pa_cons pe_int (pa_cons pe_int (pa_cons pe_int (pa_cons pe_int pa_nil))))) pa_nil))))
      (pss_cons (ps_par (i := 7) (j := 8) (by rfl) scRl.nd rfl rfl (by decide) rfl rfl (pa_cons (pe_call PC.ok hr rfl PC.m PC.kp PC.b .nil pass0 (pa_cons (pv 0) (pa_cons (pv 1) (pa_cons (pv 6) pa_nil))))
        (pa_cons (pe_call PC.ok hr rfl PC.m PC.kp PC.b .nil pass0 (pa_cons (pv 0) (pa_cons (pv 1) (pa_cons (pv 6) pa_nil)))) pa_nil)) (by rfl))
      (pss_one (ps_if (PW.pt (pw_and (pt_cmpR op_ne (pv 7) (pv 8) (nomark _)) (pw_and (pt_cmpR op_notIn_seq (pv 7) (pv 4) (by rfl)) (pw_and1 (pt_cmpR op_notIn_seq (pv 8) (pv 4) (by rfl))))))
        (pss_cons (ps_expr (pe_bm PySem.F.plainAttrs_list PySem.F.slot_list_append PySem.F.type_list_append mt_append (pv 3) (pa_cons (pe_tup (pa_cons (pv 7) (pa_cons (pv 8) pa_nil))) pa_nil)))
        (pss_one (ps_expr (pe_bm PySem.F.plainAttrs_list PySem.F.slot_list_extend PySem.F.type_list_extend mt_extend (pv 4) (pa_cons (pe_lst (pa_cons (pv 7) (pa_cons (pv 8) pa_nil))) pa_nil))))) pss_nil)))))
    (pss_one (ps_ret (pe_callTy call_tuple_of (by rfl) T.c.tuple (by decide +kernel) (pa_cons (pv 3) pa_nil))))), ?_⟩
  refine ⟨by show 0 ≤ 2 ^ 24; decide, fun lf nlf => ⟨by show 0 ≤ 2 ^ 24; decide, fun ls nls => ⟨_, _, rfl, ?_⟩⟩⟩
  have neS : ls ≠ lf := fun e => by rw [e, upd_same] at nls; cases nls
  have nls0 : H ls = none := by rw [upd_ne neS] at nls; exact nls
  have nHF : Hd d c H lf = none := hd_none nlf
  have nHS : Hd d c H ls = none := hd_none nls0
  have fF := D.free nlf
  have fS := D.free nls0
  have D1 := (D.new nlf (.lst [])).new nls (.lst [])
  have s1 : Same (Hd d c H) (Hd d c (upd (upd H lf (.lst [])) ls (.lst []))) := (hd_new nlf _).trans (hd_new nls _)
  have gF : (upd (upd H lf (.lst [])) ls (.lst [])) lf = some (.lst []) := by rw [upd_ne neS.symm]; exact upd_same
  have gS : (upd (upd H lf (.lst [])) ls (.lst [])) ls = some (.lst (([] : List Str).map V.str)) := upd_same
  generalize upd (upd H lf (.lst [])) ls (.lst []) = G1 at D1 s1 gF gS
  refine ⟨_, rfl, _, rfl, _, _, rfl, rfl, d, c, 7, _, rfl, D1, by omega, by decide, by decide, fun r G2 r0 r1 D2 s2 => ?_⟩
  obtain ⟨n, rfl⟩ : ∃ n : Nat, r = (n : Int) := ⟨r.toNat, by omega⟩
  have gF2 := hd_sub _ _ (s2 _ _ (hd_of gF fF.1 fF.2))
  have gS2 := hd_sub _ _ (s2 _ _ (hd_of gS fS.1 fS.2))
  refine ⟨n, rfl, by omega, by omega, for_range (lo := 0) (n := n) (fun i σ G => ∃ (k5 k6 k7 k8 : Option V) (us : List V) (tk : List Str), σ = [some (.ref d), some (.int l), some (.int 6), some (.ref lf), some (.ref ls), k5, k6, k7, k8] ∧
      Deck G d c (m + 1 + 11 * i) ∧ Same (Hd d c H) (Hd d c G) ∧ G lf = some (.lst us) ∧ us.length ≤ i ∧ (∀ u ∈ us, PairAt (Hd d c G) u) ∧ G ls = some (.lst (tk.map V.str)) ∧ tk.length ≤ 2 * i)
    ⟨none, none, none, none, [], [], rfl, D2, s1.trans s2, gF2, Nat.le_refl _, fun u h => (nomatch h), gS2, Nat.zero_le _⟩ ?_ ?_⟩
  · rintro i σ G hi ⟨k5, k6, k7, k8, us, tk, rfl, DG, sG, g1, ul, up, g2, tl⟩
    refine ⟨_, rfl, by show 4 ≤ 2 ^ 24; decide, fun a na => ?_⟩
    have Da := DG.new na (.lst [V.int 1, V.int 2, V.int 2, V.int 3])
    have fa := DG.free na
    have sa := hd_new (d := d) (c := c) na (.lst [V.int 1, V.int 2, V.int 2, V.int 3])
    have ha : Hd d c (upd G a (.lst [V.int 1, V.int 2, V.int 2, V.int 3])) a = some (.lst [V.int 1, V.int 2, V.int 2, V.int 3]) := hd_of upd_same fa.1 fa.2
    generalize upd G a (.lst [V.int 1, V.int 2, V.int 2, V.int 3]) = Ga at Da sa ha
    refine ⟨d, c, a, _, _, rfl, Da, by omega, ha, by decide, by decide, fun v G3 hv D3 s3 => ?_⟩
    obtain ⟨z, rfl, z1, z3⟩ : ∃ z : Nat, v = .int z ∧ 1 ≤ z ∧ z ≤ 3 := by
      rcases List.mem_cons.mp hv with rfl | hv
      · exact ⟨1, rfl, by decide, by decide⟩
      · rcases List.mem_cons.mp hv with rfl | hv
        · exact ⟨2, rfl, by decide, by decide⟩
        · rcases List.mem_cons.mp hv with rfl | hv
          · exact ⟨2, rfl, by decide, by decide⟩
          · rw [List.mem_singleton.mp hv]; exact ⟨3, rfl, by decide, by decide⟩
    refine ⟨_, rfl, _, rfl, _, rfl, d, c, l, z, _, rfl, D3, by omega, l1, l4, by omega, fun x G4 wx D4 s4 => ⟨_, rfl, _, rfl, _, rfl, d, c, l, z, _, rfl, D4, by omega, l1, l4, by omega, fun y G5 wy D5 s5 => ⟨_, _, rfl, ?_⟩⟩⟩
    have sH := sa.trans (s3.trans (s4.trans s5))
    have g1' := hd_sub _ _ (sH _ _ (hd_of g1 fF.1 fF.2))
    have g2' := hd_sub _ _ (sH _ _ (hd_of g2 fS.1 fS.2))
    have up' : ∀ u ∈ us, PairAt (Hd d c G5) u := fun u hu => (up u hu).same sH
    have stay : ∃ (k5 k6 k7 k8 : Option V) (us' : List V) (tk' : List Str), [some (V.ref d), some (.int l), some (.int 6), some (.ref lf), some (.ref ls), some (V.int (0 + i)), some (V.int z), some (V.str x), some (V.str y)] = [some (.ref d), some (.int l), some (.int 6), some (.ref lf), some (.ref ls), k5, k6, k7, k8] ∧
        Deck G5 d c (m + 1 + 11 * (i + 1)) ∧ Same (Hd d c H) (Hd d c G5) ∧ G5 lf = some (.lst us') ∧ us'.length ≤ i + 1 ∧ (∀ u ∈ us', PairAt (Hd d c G5) u) ∧ G5 ls = some (.lst (tk'.map V.str)) ∧ tk'.length ≤ 2 * (i + 1) :=
      ⟨_, _, _, _, us, tk, rfl, D5.mono (by omega), sG.trans sH, g1', by omega, up', g2', by omega⟩
    refine ⟨_, rfl, _, rfl, rfl, _, rfl, ite2 (fun c2 => ?_) (fun c2 => iteF stay)⟩
    refine ⟨_, rfl, _, rfl, ls, _, rfl, .inl (.inl (.inl g2')), rfl, flat_strs tk, _, rfl, ite2 (fun c3 => ?_) (fun c3 => iteF stay)⟩
    refine ⟨_, rfl, _, rfl, ls, _, rfl, .inl (.inl (.inl g2')), rfl, flat_strs tk, _, rfl, ite2 (fun c4 => ?_) (fun c4 => stay)⟩
    refine ⟨_, rfl, .inl ⟨rfl, _, .inl (.inl g1')⟩, _, rfl, _, rfl, by show 2 ≤ 2 ^ 24; decide, fun t nt => ?_⟩
    have ft := D5.free nt
    have D6 := D5.new nt (.tup [V.str x, V.str y])
    have s6 : Same (Hd d c G5) (Hd d c (upd G5 t (.tup [V.str x, V.str y]))) := hd_new nt _
    have gt : Hd d c (upd G5 t (.tup [V.str x, V.str y])) t = some (.tup [V.str x, V.str y]) := hd_of upd_same ft.1 ft.2
    have g1'' := same_new nt (.tup [V.str x, V.str y]) _ _ g1'
    have g2'' := same_new nt (.tup [V.str x, V.str y]) _ _ g2'
    generalize upd G5 t (.tup [V.str x, V.str y]) = G6 at D6 s6 gt g1'' g2''
    refine ⟨lf, us, .ref t, rfl, rfl, g1'', by show us.length < 2 ^ 24; omega, ?_⟩
    have up6 : ∀ u ∈ us ++ [V.ref t], PairAt (Hd d c (upd G6 lf (.lst (us ++ [V.ref t])))) u := fun u hu => by
      have h6 : PairAt (Hd d c G6) u := by
        rcases List.mem_append.mp hu with hu | hu
        · exact (up' u hu).same s6
        · rw [List.mem_singleton.mp hu]
          exact ⟨t, x, y, rfl, gt, wx.mono z3, wy.mono z3⟩
      obtain ⟨t', x', y', w1, w2, w3⟩ := h6
      obtain ⟨w4, w5, w6⟩ := hd_some w2
      refine ⟨t', x', y', w1, hd_of ?_ w5 w6, w3⟩
      rw [upd_ne (fun e => by rw [e, g1''] at w4; cases w4)]
      exact w4
    have D7 := D6.put fF.1 fF.2 (.lst (us ++ [V.ref t]))
    have s7 : Same (Hd d c H) (Hd d c (upd G6 lf (.lst (us ++ [V.ref t])))) := hd_grow nHF (sG.trans (sH.trans s6)) _
    have g17 : (upd G6 lf (.lst (us ++ [V.ref t]))) lf = some (.lst (us ++ [V.ref t])) := upd_same
    have g27 : (upd G6 lf (.lst (us ++ [V.ref t]))) ls = some (.lst (tk.map V.str)) := by rw [upd_ne neS]; exact g2''
    generalize upd G6 lf (.lst (us ++ [V.ref t])) = G7 at up6 D7 s7 g17 g27
    refine ⟨_, rfl, .inl ⟨rfl, _, .inl (.inl g27)⟩, _, rfl, _, rfl, by show 2 ≤ 2 ^ 24; decide, fun e nE => ?_⟩
    have fe := D7.free nE
    have D8 := D7.new nE (.lst [V.str x, V.str y])
    have s8 : Same (Hd d c G7) (Hd d c (upd G7 e (.lst [V.str x, V.str y]))) := hd_new nE _
    have ge : upd G7 e (.lst [V.str x, V.str y]) e = some (.lst [V.str x, V.str y]) := upd_same
    have g18 := same_new nE (.lst [V.str x, V.str y]) _ _ g17
    have g28 := same_new nE (.lst [V.str x, V.str y]) _ _ g27
    generalize upd G7 e (.lst [V.str x, V.str y]) = G8 at D8 s8 ge g18 g28
    refine ⟨ls, e, _, _, rfl, rfl, g28, ge, by rw [List.length_map]; show _ + 2 ≤ 2 ^ 24; omega, ?_⟩
    refine ⟨_, _, _, _, us ++ [V.ref t], tk ++ [x, y], rfl, (D8.put fS.1 fS.2 _).mono (by omega), hd_grow nHS (s7.trans s8) _, by rw [upd_ne neS.symm]; exact g18, by rw [List.length_append]; show us.length + 1 ≤ i + 1; omega, ?_, by rw [upd_same, List.map_append]; rfl, by rw [List.length_append]; show _ + 2 ≤ _; omega⟩
    intro u hu
    obtain ⟨t', x', y', w1, w2, w3⟩ := (up6 u hu).same s8
    obtain ⟨w4, w5, w6⟩ := hd_some w2
    refine ⟨t', x', y', w1, hd_of ?_ w5 w6, w3⟩
    rw [upd_ne (fun e => by rw [e, g28] at w4; cases w4)]
    exact w4
  · rintro σ G ⟨k5, k6, k7, k8, us, tk, rfl, DG, sG, g1, ul, up, g2, tl⟩
    refine ⟨_, rfl, lf, us, rfl, .inl ⟨.inl (.inl g1), fun t nt => ?_⟩⟩
    have ft := DG.free nt
    have s3 := hd_new (d := d) (c := c) nt (.tup us)
    exact q t us _ (hd_of upd_same ft.1 ft.2) (by omega) ((pairs_ga us fun u hu => (up u hu).same s3).mono (by omega)) ((DG.new nt _).mono (by omega)) (sG.trans s3)
end
end K17
namespace K17
open PySem GL GZ KW KR GU KU KG
open L2 hiding isNon
open KC hiding rLenS call_lenS
open KX (Small inV_strs flat_strs)
abbrev sOdd : Stmt := top 34
def spScheme (K : PySem.W.Frag) : Sp := fun vs H Q _ => ∃ (d c : Addr) (m : Nat), vs = [.ref d, .int 4] ∧ Deck H d c m ∧ m ≤ 700000000 ∧
  ∀ (p a ra ea r : Addr) (l : Nat) (us rus : List V) (bs : List Bool) (x : Str) (G : Hp), Hd d c G p = some (.tup [.ref a, .str x, .ref r]) → KindAt K (Hd d c G) a ra ea l us bs → Wd l x → Hd d c G r = some (.tup rus) → rus.length ≤ 6 → Ga K (Hd d c G) 600 rus →
    Deck G d c (m + 200) → Same (Hd d c H) (Hd d c G) → Q (.ref p) G
def spOdd (K : PySem.W.Frag) : Sp := fun vs H Q _ => ∃ (d c : Addr) (m : Nat), vs = [.ref d] ∧ Deck H d c m ∧ m ≤ 900000000 ∧
  ∀ (v : V) (G : Hp), Gv K (Hd d c G) 300 v → Deck G d c (m + 1) → Same (Hd d c H) (Hd d c G) → Q v G
section
variable {P : Program} {w : World} {K : PySem.W.Frag} {mg : Str → Option Value} {base : Heap}
theorem scSch : FnScope ["_law_deck_here", "_law_most", "_law_letters"] ["_law_deck_here", "_law_most"] (defScope sScheme) := ⟨rfl, rfl, rfl, by decide +kernel, rfl, by decide +kernel, by decide +kernel⟩
theorem ok_scheme {f fD fK fS fR : Addr} {fd fdD fdK fdS fdR : FuncData} (F : Fun K "_law_scheme" "_law_scheme" sScheme f fd) (W : Dfn P w K mg base "_law_draw" 1 fD fdD ["_law_deck_here", "_law_many"] spDraw)
    (KI : Dfn P w K mg base "_law_kind" 2 fK fdK ["_law_deck_here", "_law_letters", "_law_most"] (spKind K)) (SG : Dfn P w K mg base "_law_signs" 3 fS fdS ["_law_deck_here", "_law_letters"] spSgn)
    (RL : Dfn P w K mg base "_law_rule" 4 fR fdR ["_law_deck_here", "_law_letters", "_law_most"] (spRl K)) : FnOk P w K mg base CX0 5 f fd ["_law_deck_here", "_law_most"] (spScheme K) := by
  refine F.ok scSch (fun vs H Q E h => ?_) (fun cdv A outer s H vs Q E hr h => ?_)
  · obtain ⟨d, c, m, rfl, _⟩ := h
    rfl
  obtain ⟨d, c, m, rfl, D, hm, q⟩ := h
  have hr1 : Room 1 _ := hr.mono (by decide)
  have hr2 : Room 2 _ := hr.mono (by decide)
  have hr3 : Room 3 _ := hr.mono (by decide)
  refine ⟨_, pss_cons (ps_set (i := 2) scSch.nd rfl (Or.inl rfl) (pe_op op_add pe_int (pe_call W.ok hr1 rfl W.m W.kp W.b .nil pass0 (pa_cons (pv 0) (pa_cons pe_int pa_nil)))))
    (pss_one (ps_ret (pe_tup (pa_cons (pe_call KI.ok hr2 rfl KI.m KI.kp KI.b .nil pass0 (pa_cons (pv 0) (pa_cons (pv 2) (pa_cons (pv 1) pa_nil))))
      (pa_cons (pe_call SG.ok hr3 rfl SG.m SG.kp SG.b .nil pass0 (pa_cons (pv 0) (pa_cons (pv 2) pa_nil)))
      (pa_cons (pe_call RL.ok hr rfl RL.m RL.kp RL.b .nil pass0 (pa_cons (pv 0) (pa_cons (pv 2) (pa_cons pe_int pa_nil)))) pa_nil)))))), ?_⟩
  refine ⟨_, rfl, d, c, 4, m, rfl, D, by omega, by decide, by decide, fun r G0 r0 r1 D0 s0 => ?_⟩
  obtain ⟨k, rfl⟩ : ∃ k : Nat, r = (k : Int) := ⟨r.toNat, by omega⟩
  refine ⟨_, _, rfl, rfl, ?_⟩
  refine ⟨_, rfl, _, rfl, _, rfl, d, c, 1 + k, 4, m + 1, rfl, D0, by omega, by omega, by omega, by decide, by decide, fun a ra ea us bs G1 KA D1 s1 => ?_⟩
  refine ⟨_, rfl, _, rfl, d, c, 1 + k, _, rfl, D1, by omega, by omega, fun x G2 wx D2 s2 => ?_⟩
  refine ⟨_, rfl, _, rfl, d, c, 1 + k, _, rfl, D2, by omega, by omega, by omega, fun r rus G3 gr rl rg D3 s3 => ?_⟩
  refine ⟨by show 3 ≤ 2 ^ 24; decide, fun p np => ?_⟩
  have fp := D3.free np
  have s4 := hd_new (d := d) (c := c) np (.tup [V.ref a, V.str x, V.ref r])
  exact q p a ra ea r (1 + k) us rus bs x _ (hd_of upd_same fp.1 fp.2) (KA.same (s2.trans (s3.trans s4))) wx (s4 _ _ gr) rl (rg.same s4) ((D3.new np _).mono (by omega)) (s0.trans (s1.trans (s2.trans (s3.trans s4))))
theorem scO : FnScope ["_law_deck_here", "_law_some"] ["_law_deck_here"] (defScope sOdd) := ⟨rfl, rfl, rfl, by decide +kernel, rfl, by decide +kernel, by decide +kernel⟩
theorem ok_odd {f fO : Addr} {fd fdO : FuncData} (F : Fun K "_law_odd" "_law_odd" sOdd f fd) (O : Dfn P w K mg base "_law_one" 2 fO fdO ["_law_deck_here", "_law_items"] spOne) :
    FnOk P w K mg base CX0 3 f fd ["_law_deck_here"] (spOdd K) := by
  refine F.ok scO (fun vs H Q E h => ?_) (fun cdv A outer s H vs Q E hr h => ?_)
  · obtain ⟨d, c, m, rfl, _⟩ := h
    rfl
  obtain ⟨d, c, m, rfl, D, hm, q⟩ := h
  refine ⟨_, pss_cons (ps_set (i := 1) scO.nd rfl (Or.inl rfl) (pe_lst (pa_cons pe_non (pa_cons pe_bl (pa_cons pe_bl (pa_cons pe_int (pa_cons pe_int (pa_cons (pe_un un_neg pe_int) (pa_cons pe_int (pa_cons (pe_op op_pow pe_int pe_int)
      (pa_cons pe_str (pa_cons pe_str (pa_cons pe_str (pa_cons pe_str (pa_cons (pe_tup pa_nil) (pa_cons (pe_tup (pa_cons pe_non pa_nil)) (pa_cons (pe_lst pa_nil) (pa_cons pe_dnewK (pa_cons (pe_tup (pa_cons (pe_tup pa_nil) pa_nil))
      (pa_cons (pe_tup (pa_cons (pe_tup (pa_cons pe_int pa_nil)) pa_nil)) pa_nil))))))))))))))))))))
    (pss_one (ps_ret (pe_call O.ok hr rfl O.m O.kp O.b .nil pass0 (pa_cons (pv 0) (pa_cons (pe_op op_cat (pv 1) (pe_lst (pa_cons (pe_tup (pa_cons pe_str (pa_cons pe_str pa_nil))) (pa_cons (pe_tup (pa_cons (pe_tup (pa_cons pe_str (pa_cons pe_str pa_nil))) pa_nil))
      (pa_cons (pe_lst (pa_cons pe_str (pa_cons pe_str pa_nil))) (pa_cons (pe_disp (pps_cons pe_str pe_int pps_nil) (by rfl) (by rfl) (by simp) (by decide)) (pa_cons (pe_tup (pa_cons pe_bl pa_nil))
      (pa_cons (pe_tup (pa_cons pe_int (pa_cons (pe_tup (pa_cons (pe_tup (pa_cons pe_int pa_nil)) pa_nil)) (pa_cons (pe_tup (pa_cons pe_bl pa_nil)) pa_nil)))) pa_nil)))))))) pa_nil))))), ?_⟩
  have sA : ∀ {G : Hp}, Gv K G 20 (.str "a") := fun {G} => Gv.str (by decide +kernel)
  have sB : ∀ {G : Hp}, Gv K G 20 (.str "b") := fun {G} => Gv.str (by decide +kernel)
  -- a new thing: the deck and all else stay
  have step : ∀ (G : Hp) (p : Addr) (o : HO), G p = none → Deck G d c m ∧ Same (Hd d c H) (Hd d c G) → (Deck (upd G p o) d c m ∧ Same (Hd d c H) (Hd d c (upd G p o))) ∧ Same (Hd d c G) (Hd d c (upd G p o)) ∧ Hd d c (upd G p o) p = some o := fun G p o n ⟨DG, sG⟩ =>
    ⟨⟨DG.new n o, sG.trans (hd_new n o)⟩, hd_new n o, hd_of upd_same (DG.free n).1 (DG.free n).2⟩
  refine ⟨_, rfl, _, _, rfl, rfl, ⟨by decide, by decide, by decide⟩, ?_⟩
  refine ⟨by show 0 ≤ 2 ^ 24; decide, fun t0 n0 => ?_⟩
  obtain ⟨S0, e0, f0⟩ := step _ _ (.tup []) n0 ⟨D, Same.refl _⟩
  generalize upd H t0 (.tup []) = G0 at S0 e0 f0
  have g_t0 : Gv K (Hd d c G0) 300 (.ref t0) := (Gv.tup f0 Ga.nil).mono (by decide)
  refine ⟨by show 1 ≤ 2 ^ 24; decide, fun t1 n1 => ?_⟩
  obtain ⟨S1, e1, f1⟩ := step _ _ (.tup [V.non]) n1 S0
  generalize upd G0 t1 (.tup [V.non]) = G1 at S1 e1 f1
  have g_t1 : Gv K (Hd d c G1) 300 (.ref t1) := (Gv.tup f1 (Ga.cons Gv.non Ga.nil)).mono (by decide)
  refine ⟨by show 0 ≤ 2 ^ 24; decide, fun t2 n2 => ?_⟩
  obtain ⟨S2, e2, f2⟩ := step _ _ (.lst []) n2 S1
  generalize upd G1 t2 (.lst []) = G2 at S2 e2 f2
  have g_t2 : Gv K (Hd d c G2) 300 (.ref t2) := (Gv.lst f2 Ga.nil).mono (by decide)
  intro t3 n3
  obtain ⟨S3, e3, f3⟩ := step _ _ (.dK []) n3 S2
  generalize upd G2 t3 (.dK []) = G3 at S3 e3 f3
  have g_t3 : Gv K (Hd d c G3) 300 (.ref t3) := (Gv.dic f3).mono (by decide)
  refine ⟨by show 0 ≤ 2 ^ 24; decide, fun t4 n4 => ?_⟩
  obtain ⟨S4, e4, f4⟩ := step _ _ (.tup []) n4 S3
  generalize upd G3 t4 (.tup []) = G4 at S4 e4 f4
  refine ⟨by show 1 ≤ 2 ^ 24; decide, fun t5 n5 => ?_⟩
  obtain ⟨S5, e5, f5⟩ := step _ _ (.tup [V.ref t4]) n5 S4
  generalize upd G4 t5 (.tup [V.ref t4]) = G5 at S5 e5 f5
  have g_t5 : Gv K (Hd d c G5) 300 (.ref t5) := (Gv.tup f5 (Ga.cons (Gv.tup (e5 _ _ f4) Ga.nil) Ga.nil)).mono (by decide)
  refine ⟨by show 1 ≤ 2 ^ 24; decide, fun t6 n6 => ?_⟩
  obtain ⟨S6, e6, f6⟩ := step _ _ (.tup [V.int 0]) n6 S5
  generalize upd G5 t6 (.tup [V.int 0]) = G6 at S6 e6 f6
  refine ⟨by show 1 ≤ 2 ^ 24; decide, fun t7 n7 => ?_⟩
  obtain ⟨S7, e7, f7⟩ := step _ _ (.tup [V.ref t6]) n7 S6
  generalize upd G6 t7 (.tup [V.ref t6]) = G7 at S7 e7 f7
  have g_t7 : Gv K (Hd d c G7) 300 (.ref t7) := (Gv.tup f7 (Ga.cons (Gv.tup (e7 _ _ f6) (Ga.cons (Gv.int 0 (by decide)) Ga.nil)) Ga.nil)).mono (by decide)
  refine ⟨by show 18 ≤ 2 ^ 24; decide, fun la n8 => ?_⟩
  obtain ⟨S8, e8, f8⟩ := step _ _ (.lst [V.non, V.bl true, V.bl false, V.int 0, V.int 1, V.int (-1), V.int 5, V.int (10 ^ (30 : Int).toNat), V.str "", V.str "+", V.str "a", V.str "state", V.ref t0, V.ref t1, V.ref t2, V.ref t3, V.ref t5, V.ref t7]) n8 S7
  generalize upd G7 la (.lst [V.non, V.bl true, V.bl false, V.int 0, V.int 1, V.int (-1), V.int 5, V.int (10 ^ (30 : Int).toNat), V.str "", V.str "+", V.str "a", V.str "state", V.ref t0, V.ref t1, V.ref t2, V.ref t3, V.ref t5, V.ref t7]) = G8 at S8 e8 f8
  refine ⟨_, rfl, _, rfl, ?_⟩
  refine ⟨by show 2 ≤ 2 ^ 24; decide, fun u0 n9 => ?_⟩
  obtain ⟨S9, e9, f9⟩ := step _ _ (.tup [V.str "a", V.str "b"]) n9 S8
  generalize upd G8 u0 (.tup [V.str "a", V.str "b"]) = G9 at S9 e9 f9
  have g_u0 : Gv K (Hd d c G9) 300 (.ref u0) := (Gv.tup f9 (Ga.cons sA (Ga.cons sB Ga.nil))).mono (by decide)
  refine ⟨by show 2 ≤ 2 ^ 24; decide, fun u1 n10 => ?_⟩
  obtain ⟨S10, e10, f10⟩ := step _ _ (.tup [V.str "a", V.str "b"]) n10 S9
  generalize upd G9 u1 (.tup [V.str "a", V.str "b"]) = G10 at S10 e10 f10
  refine ⟨by show 1 ≤ 2 ^ 24; decide, fun u2 n11 => ?_⟩
  obtain ⟨S11, e11, f11⟩ := step _ _ (.tup [V.ref u1]) n11 S10
  generalize upd G10 u2 (.tup [V.ref u1]) = G11 at S11 e11 f11
  have g_u2 : Gv K (Hd d c G11) 300 (.ref u2) := (Gv.tup f11 (Ga.cons (Gv.tup (e11 _ _ f10) (Ga.cons sA (Ga.cons sB Ga.nil))) Ga.nil)).mono (by decide)
  refine ⟨by show 2 ≤ 2 ^ 24; decide, fun u3 n12 => ?_⟩
  obtain ⟨S12, e12, f12⟩ := step _ _ (.lst [V.str "a", V.str "b"]) n12 S11
  generalize upd G11 u3 (.lst [V.str "a", V.str "b"]) = G12 at S12 e12 f12
  have g_u3 : Gv K (Hd d c G12) 300 (.ref u3) := (Gv.lst f12 (Ga.cons sA (Ga.cons sB Ga.nil))).mono (by decide)
  intro u4 n13
  refine ⟨upd_same, [(Sum.inr "a", V.int 1)], rfl, by decide, ?_⟩
  have S13 : Deck (upd (upd G12 u4 (.dK [])) u4 (.dK (mergeK [] [(Sum.inr "a", V.int 1)]))) d c m ∧ Same (Hd d c H) (Hd d c (upd (upd G12 u4 (.dK [])) u4 (.dK (mergeK [] [(Sum.inr "a", V.int 1)])))) := ⟨((S12.1.new n13 _).put (S12.1.free n13).1 (S12.1.free n13).2 _), hd_grow (S12.2.free (hd_none n13)) (S12.2.trans (hd_new n13 _)) _⟩
  have e13 : Same (Hd d c G12) (Hd d c (upd (upd G12 u4 (.dK [])) u4 (.dK (mergeK [] [(Sum.inr "a", V.int 1)])))) := hd_grow (hd_none n13) (hd_new n13 _) _
  have f13 : Hd d c (upd (upd G12 u4 (.dK [])) u4 (.dK (mergeK [] [(Sum.inr "a", V.int 1)]))) u4 = some (.dK (mergeK [] [(Sum.inr "a", V.int 1)])) := hd_of upd_same (S12.1.free n13).1 (S12.1.free n13).2
  generalize upd (upd G12 u4 (.dK [])) u4 (.dK (mergeK [] [(Sum.inr "a", V.int 1)])) = G13 at S13 e13 f13
  have g_u4 : Gv K (Hd d c G13) 300 (.ref u4) := (Gv.dic f13).mono (by decide)
  refine ⟨by show 1 ≤ 2 ^ 24; decide, fun u5 n14 => ?_⟩
  obtain ⟨S14, e14, f14⟩ := step _ _ (.tup [V.bl true]) n14 S13
  generalize upd G13 u5 (.tup [V.bl true]) = G14 at S14 e14 f14
  have g_u5 : Gv K (Hd d c G14) 300 (.ref u5) := (Gv.tup f14 (Ga.cons (Gv.bl true) Ga.nil)).mono (by decide)
  refine ⟨by show 1 ≤ 2 ^ 24; decide, fun u6 n15 => ?_⟩
  obtain ⟨S15, e15, f15⟩ := step _ _ (.tup [V.int 0]) n15 S14
  generalize upd G14 u6 (.tup [V.int 0]) = G15 at S15 e15 f15
  refine ⟨by show 1 ≤ 2 ^ 24; decide, fun u7 n16 => ?_⟩
  obtain ⟨S16, e16, f16⟩ := step _ _ (.tup [V.ref u6]) n16 S15
  generalize upd G15 u7 (.tup [V.ref u6]) = G16 at S16 e16 f16
  refine ⟨by show 1 ≤ 2 ^ 24; decide, fun u8 n17 => ?_⟩
  obtain ⟨S17, e17, f17⟩ := step _ _ (.tup [V.bl true]) n17 S16
  generalize upd G16 u8 (.tup [V.bl true]) = G17 at S17 e17 f17
  refine ⟨by show 3 ≤ 2 ^ 24; decide, fun u9 n18 => ?_⟩
  obtain ⟨S18, e18, f18⟩ := step _ _ (.tup [V.int 1, V.ref u7, V.ref u8]) n18 S17
  generalize upd G17 u9 (.tup [V.int 1, V.ref u7, V.ref u8]) = G18 at S18 e18 f18
  have g_u9 : Gv K (Hd d c G18) 300 (.ref u9) := (Gv.tup f18 (Ga.cons (Gv.int 1 (by decide)) (Ga.cons (Gv.tup ((e17.trans e18) _ _ f16) (Ga.cons (Gv.tup ((e16.trans (e17.trans e18)) _ _ f15) (Ga.cons (Gv.int 0 (by decide)) Ga.nil)) Ga.nil)) (Ga.cons (Gv.tup (e18 _ _ f17) (Ga.cons (Gv.bl true) Ga.nil)) Ga.nil)))).mono (by decide)
  refine ⟨by show 6 ≤ 2 ^ 24; decide, fun lb n19 => ?_⟩
  obtain ⟨S19, e19, f19⟩ := step _ _ (.lst [V.ref u0, V.ref u2, V.ref u3, V.ref u4, V.ref u5, V.ref u9]) n19 S18
  generalize upd G18 lb (.lst [V.ref u0, V.ref u2, V.ref u3, V.ref u4, V.ref u5, V.ref u9]) = G19 at S19 e19 f19
  refine ⟨la, lb, _, _, rfl, rfl, hd_sub _ _ ((e9.trans (e10.trans (e11.trans (e12.trans (e13.trans (e14.trans (e15.trans (e16.trans (e17.trans (e18.trans e19)))))))))) _ _ f8), hd_sub _ _ f19, by show 24 ≤ 2 ^ 24; decide, fun lc n20 => ?_⟩
  obtain ⟨S20, e20, f20⟩ := step _ _ (.lst ([V.non, V.bl true, V.bl false, V.int 0, V.int 1, V.int (-1), V.int 5, V.int (10 ^ (30 : Int).toNat), V.str "", V.str "+", V.str "a", V.str "state", V.ref t0, V.ref t1, V.ref t2, V.ref t3, V.ref t5, V.ref t7] ++ [V.ref u0, V.ref u2, V.ref u3, V.ref u4, V.ref u5, V.ref u9])) n20 S19
  generalize upd G19 lc (.lst ([V.non, V.bl true, V.bl false, V.int 0, V.int 1, V.int (-1), V.int 5, V.int (10 ^ (30 : Int).toNat), V.str "", V.str "+", V.str "a", V.str "state", V.ref t0, V.ref t1, V.ref t2, V.ref t3, V.ref t5, V.ref t7] ++ [V.ref u0, V.ref u2, V.ref u3, V.ref u4, V.ref u5, V.ref u9])) = G20 at S20 e20 f20
  have al : Gs K (Hd d c G20) 300 ([V.non, V.bl true, V.bl false, V.int 0, V.int 1, V.int (-1), V.int 5, V.int (10 ^ (30 : Int).toNat), V.str "", V.str "+", V.str "a", V.str "state", V.ref t0, V.ref t1, V.ref t2, V.ref t3, V.ref t5, V.ref t7] ++ [V.ref u0, V.ref u2, V.ref u3, V.ref u4, V.ref u5, V.ref u9]) := by
    have h_t0 := g_t0.same ((e1.trans (e2.trans (e3.trans (e4.trans (e5.trans (e6.trans (e7.trans (e8.trans (e9.trans (e10.trans (e11.trans (e12.trans (e13.trans (e14.trans (e15.trans (e16.trans (e17.trans (e18.trans (e19.trans e20))))))))))))))))))))
    have h_t1 := g_t1.same ((e2.trans (e3.trans (e4.trans (e5.trans (e6.trans (e7.trans (e8.trans (e9.trans (e10.trans (e11.trans (e12.trans (e13.trans (e14.trans (e15.trans (e16.trans (e17.trans (e18.trans (e19.trans e20)))))))))))))))))))
    have h_t2 := g_t2.same ((e3.trans (e4.trans (e5.trans (e6.trans (e7.trans (e8.trans (e9.trans (e10.trans (e11.trans (e12.trans (e13.trans (e14.trans (e15.trans (e16.trans (e17.trans (e18.trans (e19.trans e20))))))))))))))))))
    have h_t3 := g_t3.same ((e4.trans (e5.trans (e6.trans (e7.trans (e8.trans (e9.trans (e10.trans (e11.trans (e12.trans (e13.trans (e14.trans (e15.trans (e16.trans (e17.trans (e18.trans (e19.trans e20)))))))))))))))))
    have h_t5 := g_t5.same ((e6.trans (e7.trans (e8.trans (e9.trans (e10.trans (e11.trans (e12.trans (e13.trans (e14.trans (e15.trans (e16.trans (e17.trans (e18.trans (e19.trans e20)))))))))))))))
    have h_t7 := g_t7.same ((e8.trans (e9.trans (e10.trans (e11.trans (e12.trans (e13.trans (e14.trans (e15.trans (e16.trans (e17.trans (e18.trans (e19.trans e20)))))))))))))
    have h_u0 := g_u0.same ((e10.trans (e11.trans (e12.trans (e13.trans (e14.trans (e15.trans (e16.trans (e17.trans (e18.trans (e19.trans e20)))))))))))
    have h_u2 := g_u2.same ((e12.trans (e13.trans (e14.trans (e15.trans (e16.trans (e17.trans (e18.trans (e19.trans e20)))))))))
    have h_u3 := g_u3.same ((e13.trans (e14.trans (e15.trans (e16.trans (e17.trans (e18.trans (e19.trans e20))))))))
    have h_u4 := g_u4.same ((e14.trans (e15.trans (e16.trans (e17.trans (e18.trans (e19.trans e20)))))))
    have h_u5 := g_u5.same ((e15.trans (e16.trans (e17.trans (e18.trans (e19.trans e20))))))
    have h_u9 := g_u9.same ((e19.trans e20))
    refine Gs.append ?_ ?_
    · exact (Gs.cons (Gv.non.mono (by decide)) (Gs.cons ((Gv.bl _).mono (by decide)) (Gs.cons ((Gv.bl _).mono (by decide)) (Gs.cons ((Gv.int _ (by decide +kernel)).mono (by decide)) (Gs.cons ((Gv.int _ (by decide +kernel)).mono (by decide)) (Gs.cons ((Gv.int _ (by decide +kernel)).mono (by decide)) (Gs.cons ((Gv.int _ (by decide +kernel)).mono (by decide)) (Gs.cons ((Gv.int _ (by decide +kernel)).mono (by decide)) (Gs.cons ((Gv.str (N := 20) (by decide +kernel)).mono (by decide)) (Gs.cons ((Gv.str (N := 20) (by decide +kernel)).mono (by decide)) (Gs.cons ((Gv.str (N := 20) (by decide +kernel)).mono (by decide)) (Gs.cons ((Gv.str (N := 20) (by decide +kernel)).mono (by decide)) (Gs.cons (h_t0) (Gs.cons (h_t1) (Gs.cons (h_t2) (Gs.cons (h_t3) (Gs.cons (h_t5) (Gs.cons (h_t7) Gs.nil))))))))))))))))))
    · exact (Gs.cons (h_u0) (Gs.cons (h_u2) (Gs.cons (h_u3) (Gs.cons (h_u4) (Gs.cons (h_u5) (Gs.cons (h_u9) Gs.nil))))))
  refine ⟨d, c, lc, _, m, rfl, S20.1, by omega, f20, by show 0 < 24; decide, by show 24 ≤ 100000; decide, fun v G' hv DG sG => ?_⟩
  exact q v G' ((al v hv).same sG) DG (S20.2.trans sG)
end
end K17
namespace K17
open PySem GL GZ KW KR GU KU KG
open L2 hiding isNon
open KC hiding rLenS call_lenS
open KX (Small inV_strs flat_strs)
abbrev sBK : Stmt := top 35
def spBK (K : PySem.W.Frag) : Sp := fun vs H Q _ => ∃ (d c a ra ea : Addr) (m l : Nat) (us : List V) (bs : List Bool), vs = [.ref d, .ref a] ∧ Deck H d c m ∧ m ≤ 900000000 ∧ KindAt K (Hd d c H) a ra ea l us bs ∧
  ∀ (v : V) (G : Hp), Gv K (Hd d c G) 400000 v → Deck G d c (m + 4) → Same (Hd d c H) (Hd d c G) → Q v G
abbrev NBK : List Str := ["_law_deck_here", "_law_kind_here", "_law_letters", "_law_rows", "_law_ends", "_law_odd_here", "_law_at", "_law_row", "_law_some"]
section
variable {P : Program} {w : World} {K : PySem.W.Frag} {mg : Str → Option Value} {base : Heap}
theorem scBK : FnScope ["_law_deck_here", "_law_kind_here", "_law_letters", "_law_rows", "_law_ends", "_law_odd_here", "_law_at", "_law_row", "_law_some"] ["_law_deck_here", "_law_kind_here"] (defScope sBK) := ⟨rfl, rfl, rfl, by decide +kernel, rfl, by decide +kernel, by decide +kernel⟩
theorem ok_bk {f fD fO fX : Addr} {fd fdD fdO fdX : FuncData} (F : Fun K "_law_bent_kind" "_law_bent_kind" sBK f fd) (T : Txt mg) (W : Dfn P w K mg base "_law_draw" 1 fD fdD ["_law_deck_here", "_law_many"] spDraw)
    (O : Dfn P w K mg base "_law_one" 2 fO fdO ["_law_deck_here", "_law_items"] spOne) (X : Dfn P w K mg base "_law_odd" 3 fX fdX ["_law_deck_here"] (spOdd K)) :
    FnOk P w K mg base CX0 4 f fd ["_law_deck_here", "_law_kind_here"] (spBK K) := by
  refine F.ok scBK (fun vs H Q E h => ?_) (fun cdv A outer s H vs Q E hr h => ?_)
  · obtain ⟨d, c, a, ra, ea, m, l, us, bs, rfl, _⟩ := h
    rfl
  obtain ⟨d, c, a, ra, ea, m, l, us, bs, rfl, D, hm, KA, q⟩ := h
  have hr1 : Room 1 _ := hr.mono (by decide)
  have hr2 : Room 2 _ := hr.mono (by decide)
  refine ⟨_, pss_cons (ps_asg (pv 1) (pg_tup (by rfl) (pgs_cons (pg_name (i := 2) scBK.nd rfl (Or.inl rfl)) (pgs_cons (pg_name (i := 3) scBK.nd rfl (Or.inl rfl)) (pgs_cons (pg_name (i := 4) scBK.nd rfl (Or.inl rfl)) pgs_nil)))))
    (pss_cons (ps_par (i := 5) (j := 6) (by rfl) scBK.nd rfl rfl (by decide) rfl rfl (pa_cons (pe_call X.ok hr rfl X.m X.kp X.b .nil pass0 (pa_cons (pv 0) pa_nil))
        (pa_cons (pe_call W.ok hr1 rfl W.m W.kp W.b .nil pass0 (pa_cons (pv 0) (pa_cons (pe_callB call_len_seq (by rfl) T.c.len PySem.boot_len (pa_cons (pv 3) pa_nil)) pa_nil))) pa_nil)) (by rfl))
    (pss_cons (ps_set (i := 7) scBK.nd rfl (Or.inl rfl) (pe_op op_catD (pe_slice sl_tupD (pe_ix ix_tup (pv 3) (pv 6) (fun _ _ => rfl)) po_none (po_some (pe_un un_neg pe_int)))
        (pe_tup (pa_cons (pe_call O.ok hr2 rfl O.m O.kp O.b .nil pass0 (pa_cons (pv 0) (pa_cons (pe_lst (pa_cons (pe_callB call_len_seq (by rfl) T.c.len PySem.boot_len (pa_cons (pv 3) pa_nil)) (pa_cons (pe_un un_neg pe_int) (pa_cons pe_bl (pa_cons (pv 5) pa_nil))))) pa_nil))) pa_nil))))
    (pss_cons (ps_set (i := 8) scBK.nd rfl (Or.inl rfl) (pe_lst (pa_cons (pv 5) (pa_cons (pe_tup (pa_cons (pv 2) (pa_cons (pv 3) pa_nil))) (pa_cons (pe_tup (pa_cons (pv 5) (pa_cons (pv 3) (pa_cons (pv 4) pa_nil))))
        (pa_cons (pe_tup (pa_cons (pv 2) (pa_cons (pv 5) (pa_cons (pv 4) pa_nil)))) (pa_cons (pe_tup (pa_cons (pv 2) (pa_cons (pv 3) (pa_cons (pv 5) pa_nil)))) (pa_cons (pe_op op_catD (pv 1) (pe_tup (pa_cons (pv 5) pa_nil))) pa_nil))))))))
    (pss_cons (ps_set (i := 8) scBK.nd rfl (Or.inl rfl) (pe_op op_cat (pv 8) (pe_lst (pa_cons (pe_tup (pa_cons (pv 2) (pa_cons (pe_op op_catD (pe_op op_catD (pe_slice sl_tupD (pv 3) po_none (po_some (pv 6))) (pe_tup (pa_cons (pv 7) pa_nil)))
        (pe_slice sl_tupD (pv 3) (po_some (pe_op op_add (pv 6) pe_int)) po_none)) (pa_cons (pv 4) pa_nil)))) (pa_cons (pe_tup (pa_cons (pv 2) (pa_cons (pv 3) (pa_cons (pe_op op_catD (pe_slice sl_tupD (pv 4) po_none (po_some (pe_un un_neg pe_int))) (pe_tup (pa_cons (pv 5) pa_nil))) pa_nil)))) pa_nil)))))
    (pss_cons (ps_set (i := 8) scBK.nd rfl (Or.inl rfl) (pe_op op_cat (pv 8) (pe_lst (pa_cons (pe_tup (pa_cons (pv 2) (pa_cons (pv 3) (pa_cons (pe_op op_catD (pv 4) (pe_tup (pa_cons pe_bl pa_nil))) pa_nil)))) (pa_cons (pe_tup (pa_cons (pv 2) (pa_cons (pe_op op_repT1 (pv 3) pe_int) (pa_cons (pe_op op_repT1 (pv 4) pe_int) pa_nil)))) pa_nil)))))
    (pss_cons (ps_expr (pe_bm PySem.F.plainAttrs_list PySem.F.slot_list_append PySem.F.type_list_append mt_append (pv 8) (pa_cons (pe_tup (pa_cons (pv 2) (pa_cons (pe_op op_catD (pv 3) (pe_tup (pa_cons (pv 5) pa_nil))) (pa_cons (pe_op op_catD (pv 4) (pe_tup (pa_cons pe_bl pa_nil))) pa_nil)))) pa_nil)))
    (pss_cons (ps_set (i := 8) scBK.nd rfl (Or.inl rfl) (pe_op op_cat (pv 8) (pe_lst (pa_cons (pe_tup (pa_cons (pv 2) (pa_cons (pe_callTy call_list_of (by rfl) T.list (by decide +kernel) (pa_cons (pv 3) pa_nil)) (pa_cons (pv 4) pa_nil))))
        (pa_cons (pe_tup (pa_cons (pv 2) (pa_cons (pv 3) (pa_cons (pe_callTy call_list_of (by rfl) T.list (by decide +kernel) (pa_cons (pv 4) pa_nil)) pa_nil)))) (pa_cons (pe_tup (pa_cons (pe_op op_add (pe_op op_mod (pv 2) pe_int) pe_int) (pa_cons (pv 3) (pa_cons (pv 4) pa_nil))))
        (pa_cons (pe_callTy call_list_of (by rfl) T.list (by decide +kernel) (pa_cons (pv 1) pa_nil)) pa_nil)))))))
    (pss_cons (ps_expr (pe_bm PySem.F.plainAttrs_list PySem.F.slot_list_append PySem.F.type_list_append mt_append (pv 8) (pa_cons (pe_tup (pa_cons (pv 2) (pa_cons (pe_slice sl_tupD (pe_op op_repT1 (pv 3) pe_int) po_none (po_some pe_int)) (pa_cons (pe_slice sl_tupD (pe_op op_repT1 (pv 4) pe_int) po_none (po_some pe_int)) pa_nil)))) pa_nil)))
    (pss_one (ps_ret (pe_call O.ok hr2 rfl O.m O.kp O.b .nil pass0 (pa_cons (pv 0) (pa_cons (pe_op op_cat (pv 8) (pe_lst (pa_cons (pe_tup (pa_cons (pv 2) (pa_cons (pe_tup pa_nil) (pa_cons (pe_tup pa_nil) pa_nil)))) (pa_cons (pe_tup (pa_cons (pv 2) (pa_cons (pv 3) (pa_cons (pv 4) pa_nil)))) pa_nil)))) pa_nil))))))))))))), ?_⟩
  refine ⟨_, rfl, a, _, rfl, .inl (.inl (hd_sub _ _ KA.at_)), rfl, _, _, rfl, _, _, rfl, _, _, rfl, rfl, ?_⟩
  refine ⟨_, rfl, d, c, m, rfl, D, hm, fun od G1 god D1 s1 => ?_⟩
  have KA1 := KA.same s1
  have un1 := KA.n1
  have un4 := KA.n4
  refine ⟨_, rfl, _, rfl, ra, us, rfl, .inr (.inl (.inl (hd_sub _ _ KA1.rows))), d, c, us.length, _, rfl, D1, by omega, by omega, by omega, fun r G2 r0 r1 D2 s2 => ⟨_, _, rfl, ?_⟩⟩
  obtain ⟨ix, rfl⟩ : ∃ ix : Nat, r = (ix : Int) := ⟨r.toNat, by omega⟩
  have ixl : ix < us.length := by omega
  obtain ⟨u, hu⟩ : ∃ u, us[ix]? = some u := ⟨_, List.getElem?_eq_getElem ixl⟩
  have KA2 := KA1.same s2
  obtain ⟨t, ys, rfl, ht, yl, yg⟩ := KA2.row u (List.mem_of_getElem? hu)
  have une : us ≠ [] := fun e => by rw [e] at un1; exact absurd un1 (by decide)
  have bne : bs.map V.bl ≠ [] := fun e => by
    have := congrArg List.length e
    rw [List.length_map, KA2.eb] at this
    exact une (List.length_eq_zero_iff.mp this)
  refine ⟨_, rfl, _, rfl, ra, us, _, _, rfl, rfl, .inl (.inl (hd_sub _ _ KA2.rows)), atI_nat hu, ?_⟩
  have S2 : St H d c (m + 2) G2 := ⟨D2, s1.trans s2⟩
  refine ⟨_, rfl, _, rfl, t, ys, rfl, (hd_sub _ _ ht), fun b1 G3 t3 q3 => ?_⟩
  obtain ⟨S3, e3⟩ := S2.keep t3
  have f3 : Hd d c G3 b1 = some (.tup (cutV ys none (some (-1)))) := S3.D.tup q3
  refine ⟨_, rfl, _, rfl, ra, us, rfl, .inr (.inl (.inl (hd_sub _ _ (e3 _ _ KA2.rows)))), _, rfl, _, rfl, by show 4 ≤ 2 ^ 24; decide, fun la n4 => ?_⟩
  obtain ⟨S4, e4, f4⟩ := S3.new n4 (.lst [V.int us.length, V.int (-1), V.bl true, od])
  generalize upd G3 la (.lst [V.int us.length, V.int (-1), V.bl true, od]) = G4 at S4 e4 f4
  refine ⟨d, c, la, _, _, rfl, S4.D, by omega, f4, by show 0 < 4; decide, by show 4 ≤ 100000; decide, fun v G5 hv D5 s5 => ?_⟩
  have god1 := (god.same s2).same ((e3.trans e4))
  have S5 : St H d c (m + 3) G5 := ⟨D5, S4.s.trans s5⟩
  have e5 := s5
  have gv : Gv K (Hd d c G5) 300 v := (Gs.cons ((Gv.int (K := K) (H := Hd d c G4) (us.length : Int) (by omega)).mono (by decide)) (Gs.cons ((Gv.int (-1) (by decide)).mono (by decide)) (Gs.cons ((Gv.bl true).mono (by decide)) (Gs.cons god1 Gs.nil))) v hv).same s5
  have god2 := god1.same s5
  refine ⟨by show 1 ≤ 2 ^ 24; decide, fun p1 n6 => ?_⟩
  obtain ⟨S6, e6, f6⟩ := S5.new n6 (.tup [v])
  generalize upd G5 p1 (.tup [v]) = G6 at S6 e6 f6
  refine ⟨b1, p1, _, _, rfl, rfl, (hd_sub _ _ ((e4.trans (e5.trans e6)) _ _ f3)), (hd_sub _ _ f6), by have := cutV_length ys none (some (-1)); have := KA2.l4; show _ + 1 ≤ 2 ^ 24; omega, fun rw G7 t7 q7 => ?_⟩
  obtain ⟨S7, e7⟩ := S6.keep t7
  have f7 : Hd d c G7 rw = some (.tup (cutV ys none (some (-1)) ++ [v])) := S7.D.tup q7
  refine ⟨_, rfl, _, rfl, _, rfl, by show 2 ≤ 2 ^ 24; decide, fun x1 n8 => ?_⟩
  obtain ⟨S8, e8, f8⟩ := S7.new n8 (.tup [V.int l, V.ref ra])
  generalize upd G7 x1 (.tup [V.int l, V.ref ra]) = G8 at S8 e8 f8
  refine ⟨_, rfl, _, rfl, _, rfl, by show 3 ≤ 2 ^ 24; decide, fun x2 n9 => ?_⟩
  obtain ⟨S9, e9, f9⟩ := S8.new n9 (.tup [od, V.ref ra, V.ref ea])
  generalize upd G8 x2 (.tup [od, V.ref ra, V.ref ea]) = G9 at S9 e9 f9
  refine ⟨_, rfl, _, rfl, _, rfl, by show 3 ≤ 2 ^ 24; decide, fun x3 n10 => ?_⟩
  obtain ⟨S10, e10, f10⟩ := S9.new n10 (.tup [V.int l, od, V.ref ea])
  generalize upd G9 x3 (.tup [V.int l, od, V.ref ea]) = G10 at S10 e10 f10
  refine ⟨_, rfl, _, rfl, _, rfl, by show 3 ≤ 2 ^ 24; decide, fun x4 n11 => ?_⟩
  obtain ⟨S11, e11, f11⟩ := S10.new n11 (.tup [V.int l, V.ref ra, od])
  generalize upd G10 x4 (.tup [V.int l, V.ref ra, od]) = G11 at S11 e11 f11
  refine ⟨_, rfl, _, rfl, by show 1 ≤ 2 ^ 24; decide, fun y1 n12 => ?_⟩
  obtain ⟨S12, e12, f12⟩ := S11.new n12 (.tup [od])
  generalize upd G11 y1 (.tup [od]) = G12 at S12 e12 f12
  refine ⟨a, y1, _, _, rfl, rfl, (hd_sub _ _ ((e3.trans (e4.trans (e5.trans (e6.trans (e7.trans (e8.trans (e9.trans (e10.trans (e11.trans e12))))))))) _ _ KA2.at_)), (hd_sub _ _ f12), by show 3 + 1 ≤ 2 ^ 24; decide, fun x5 G13 t13 q13 => ?_⟩
  obtain ⟨S13, e13⟩ := S12.keep t13
  have f13 : Hd d c G13 x5 = some (.tup ([V.int l, V.ref ra, V.ref ea] ++ [od])) := S13.D.tup q13
  refine ⟨by show 6 ≤ 2 ^ 24; decide, fun L1 n14 => ?_⟩
  obtain ⟨S14, e14, f14⟩ := S13.new n14 (.lst [od, V.ref x1, V.ref x2, V.ref x3, V.ref x4, V.ref x5])
  generalize upd G13 L1 (.lst [od, V.ref x1, V.ref x2, V.ref x3, V.ref x4, V.ref x5]) = G14 at S14 e14 f14
  refine ⟨_, rfl, _, rfl, _, rfl, _, rfl, _, rfl, ra, us, rfl, (hd_sub _ _ ((e3.trans (e4.trans (e5.trans (e6.trans (e7.trans (e8.trans (e9.trans (e10.trans (e11.trans (e12.trans (e13.trans e14))))))))))) _ _ KA2.rows)), fun b2 G15 t15 q15 => ?_⟩
  obtain ⟨S15, e15⟩ := S14.keep t15
  have f15 : Hd d c G15 b2 = some (.tup (cutV us none (some ix))) := S15.D.tup q15
  refine ⟨_, rfl, by show 1 ≤ 2 ^ 24; decide, fun y2 n16 => ?_⟩
  obtain ⟨S16, e16, f16⟩ := S15.new n16 (.tup [V.ref rw])
  generalize upd G15 y2 (.tup [V.ref rw]) = G16 at S16 e16 f16
  refine ⟨b2, y2, _, _, rfl, rfl, (hd_sub _ _ (e16 _ _ f15)), (hd_sub _ _ f16), by have := cutV_length us none (some (ix : Int)); show _ + 1 ≤ 2 ^ 24; omega, fun c1 G17 t17 q17 => ?_⟩
  obtain ⟨S17, e17⟩ := S16.keep t17
  have f17 : Hd d c G17 c1 = some (.tup (cutV us none (some ix) ++ [V.ref rw])) := S17.D.tup q17
  refine ⟨_, rfl, _, rfl, _, _, rfl, rfl, _, rfl, ra, us, rfl, (hd_sub _ _ ((e3.trans (e4.trans (e5.trans (e6.trans (e7.trans (e8.trans (e9.trans (e10.trans (e11.trans (e12.trans (e13.trans (e14.trans (e15.trans (e16.trans e17)))))))))))))) _ _ KA2.rows)), fun b3 G18 t18 q18 => ?_⟩
  obtain ⟨S18, e18⟩ := S17.keep t18
  have f18 : Hd d c G18 b3 = some (.tup (cutV us (some (ix + 1)) none)) := S18.D.tup q18
  refine ⟨c1, b3, _, _, rfl, rfl, (hd_sub _ _ (e18 _ _ f17)), (hd_sub _ _ f18), by have := cutV_length us none (some (ix : Int)); have := cutV_length us (some ((ix : Int) + 1)) none; rw [List.length_append]; show _ + 1 + _ ≤ 2 ^ 24; omega, fun c2 G19 t19 q19 => ?_⟩
  obtain ⟨S19, e19⟩ := S18.keep t19
  have f19 : Hd d c G19 c2 = some (.tup ((cutV us none (some ix) ++ [V.ref rw]) ++ cutV us (some (ix + 1)) none)) := S19.D.tup q19
  refine ⟨_, rfl, by show 3 ≤ 2 ^ 24; decide, fun x6 n20 => ?_⟩
  obtain ⟨S20, e20, f20⟩ := S19.new n20 (.tup [V.int l, V.ref c2, V.ref ea])
  generalize upd G19 x6 (.tup [V.int l, V.ref c2, V.ref ea]) = G20 at S20 e20 f20
  refine ⟨_, rfl, _, rfl, _, rfl, _, rfl, _, rfl, ea, bs.map V.bl, rfl, (hd_sub _ _ ((e3.trans (e4.trans (e5.trans (e6.trans (e7.trans (e8.trans (e9.trans (e10.trans (e11.trans (e12.trans (e13.trans (e14.trans (e15.trans (e16.trans (e17.trans (e18.trans (e19.trans e20))))))))))))))))) _ _ KA2.ends)), fun b4 G21 t21 q21 => ?_⟩
  obtain ⟨S21, e21⟩ := S20.keep t21
  have f21 : Hd d c G21 b4 = some (.tup (cutV (bs.map V.bl) none (some (-1)))) := S21.D.tup q21
  refine ⟨_, rfl, by show 1 ≤ 2 ^ 24; decide, fun y3 n22 => ?_⟩
  obtain ⟨S22, e22, f22⟩ := S21.new n22 (.tup [od])
  generalize upd G21 y3 (.tup [od]) = G22 at S22 e22 f22
  refine ⟨b4, y3, _, _, rfl, rfl, (hd_sub _ _ (e22 _ _ f21)), (hd_sub _ _ f22), by have := cutV_length (bs.map V.bl) none (some (-1)); rw [List.length_map] at this; have := KA2.eb; show _ + 1 ≤ 2 ^ 24; omega, fun c3 G23 t23 q23 => ?_⟩
  obtain ⟨S23, e23⟩ := S22.keep t23
  have f23 : Hd d c G23 c3 = some (.tup (cutV (bs.map V.bl) none (some (-1)) ++ [od])) := S23.D.tup q23
  refine ⟨by show 3 ≤ 2 ^ 24; decide, fun x7 n24 => ?_⟩
  obtain ⟨S24, e24, f24⟩ := S23.new n24 (.tup [V.int l, V.ref ra, V.ref c3])
  generalize upd G23 x7 (.tup [V.int l, V.ref ra, V.ref c3]) = G24 at S24 e24 f24
  refine ⟨by show 2 ≤ 2 ^ 24; decide, fun L2 n25 => ?_⟩
  obtain ⟨S25, e25, f25⟩ := S24.new n25 (.lst [V.ref x6, V.ref x7])
  generalize upd G24 L2 (.lst [V.ref x6, V.ref x7]) = G25 at S25 e25 f25
  refine ⟨L1, L2, _, _, rfl, rfl, (hd_sub _ _ ((e15.trans (e16.trans (e17.trans (e18.trans (e19.trans (e20.trans (e21.trans (e22.trans (e23.trans (e24.trans e25)))))))))) _ _ f14)), (hd_sub _ _ f25), by show 8 ≤ 2 ^ 24; decide, fun L3 n26 => ?_⟩
  obtain ⟨S26, e26, f26⟩ := S25.new n26 (.lst ([od, V.ref x1, V.ref x2, V.ref x3, V.ref x4, V.ref x5] ++ [V.ref x6, V.ref x7]))
  generalize upd G25 L3 (.lst ([od, V.ref x1, V.ref x2, V.ref x3, V.ref x4, V.ref x5] ++ [V.ref x6, V.ref x7])) = G26 at S26 e26 f26
  refine ⟨_, rfl, _, rfl, _, rfl, _, rfl, by show 1 ≤ 2 ^ 24; decide, fun y4 n27 => ?_⟩
  obtain ⟨S27, e27, f27⟩ := S26.new n27 (.tup [V.bl true])
  generalize upd G26 y4 (.tup [V.bl true]) = G27 at S27 e27 f27
  refine ⟨ea, y4, _, _, rfl, rfl, (hd_sub _ _ ((e3.trans (e4.trans (e5.trans (e6.trans (e7.trans (e8.trans (e9.trans (e10.trans (e11.trans (e12.trans (e13.trans (e14.trans (e15.trans (e16.trans (e17.trans (e18.trans (e19.trans (e20.trans (e21.trans (e22.trans (e23.trans (e24.trans (e25.trans (e26.trans e27)))))))))))))))))))))))) _ _ KA2.ends)), (hd_sub _ _ f27), by rw [List.length_map]; have := KA2.eb; show _ + 1 ≤ 2 ^ 24; omega, fun c4 G28 t28 q28 => ?_⟩
  obtain ⟨S28, e28⟩ := S27.keep t28
  have f28 : Hd d c G28 c4 = some (.tup (bs.map V.bl ++ [V.bl true])) := S28.D.tup q28
  refine ⟨by show 3 ≤ 2 ^ 24; decide, fun x8 n29 => ?_⟩
  obtain ⟨S29, e29, f29⟩ := S28.new n29 (.tup [V.int l, V.ref ra, V.ref c4])
  generalize upd G28 x8 (.tup [V.int l, V.ref ra, V.ref c4]) = G29 at S29 e29 f29
  refine ⟨_, rfl, _, rfl, ra, 9, _, rfl, rfl, .inl (.inl (hd_sub _ _ ((e3.trans (e4.trans (e5.trans (e6.trans (e7.trans (e8.trans (e9.trans (e10.trans (e11.trans (e12.trans (e13.trans (e14.trans (e15.trans (e16.trans (e17.trans (e18.trans (e19.trans (e20.trans (e21.trans (e22.trans (e23.trans (e24.trans (e25.trans (e26.trans (e27.trans (e28.trans e29)))))))))))))))))))))))))) _ _ KA2.rows))), une, by decide, by decide, by omega, fun e => absurd e (by decide), fun r1 n30 => ?_⟩
  obtain ⟨S30, e30, f30⟩ := S29.new n30 (.tup (List.replicate 9 us).flatten)
  generalize upd G29 r1 (.tup (List.replicate 9 us).flatten) = G30 at S30 e30 f30
  refine ⟨_, rfl, ea, 9, _, rfl, rfl, .inl (.inl (hd_sub _ _ ((e3.trans (e4.trans (e5.trans (e6.trans (e7.trans (e8.trans (e9.trans (e10.trans (e11.trans (e12.trans (e13.trans (e14.trans (e15.trans (e16.trans (e17.trans (e18.trans (e19.trans (e20.trans (e21.trans (e22.trans (e23.trans (e24.trans (e25.trans (e26.trans (e27.trans (e28.trans (e29.trans e30))))))))))))))))))))))))))) _ _ KA2.ends))), bne, by decide, by decide, by rw [List.length_map]; have := KA2.eb; omega, fun e => absurd e (by decide), fun r2 n31 => ?_⟩
  obtain ⟨S31, e31, f31⟩ := S30.new n31 (.tup (List.replicate 9 (bs.map V.bl)).flatten)
  generalize upd G30 r2 (.tup (List.replicate 9 (bs.map V.bl)).flatten) = G31 at S31 e31 f31
  refine ⟨by show 3 ≤ 2 ^ 24; decide, fun x9 n32 => ?_⟩
  obtain ⟨S32, e32, f32⟩ := S31.new n32 (.tup [V.int l, V.ref r1, V.ref r2])
  generalize upd G31 x9 (.tup [V.int l, V.ref r1, V.ref r2]) = G32 at S32 e32 f32
  refine ⟨by show 2 ≤ 2 ^ 24; decide, fun L4 n33 => ?_⟩
  obtain ⟨S33, e33, f33⟩ := S32.new n33 (.lst [V.ref x8, V.ref x9])
  generalize upd G32 L4 (.lst [V.ref x8, V.ref x9]) = G33 at S33 e33 f33
  refine ⟨L3, L4, _, _, rfl, rfl, (hd_sub _ _ ((e27.trans (e28.trans (e29.trans (e30.trans (e31.trans (e32.trans e33)))))) _ _ f26)), (hd_sub _ _ f33), by show 10 ≤ 2 ^ 24; decide, fun L5 n34 => ?_⟩
  obtain ⟨S34, e34⟩ := SR.start S33 n34 (([od, V.ref x1, V.ref x2, V.ref x3, V.ref x4, V.ref x5] ++ [V.ref x6, V.ref x7]) ++ [V.ref x8, V.ref x9])
  generalize upd G33 L5 (.lst (([od, V.ref x1, V.ref x2, V.ref x3, V.ref x4, V.ref x5] ++ [V.ref x6, V.ref x7]) ++ [V.ref x8, V.ref x9])) = G34 at S34 e34
  refine ⟨_, rfl, .inl ⟨rfl, _, .inl (.inl S34.g)⟩, _, rfl, _, rfl, _, rfl, by show 1 ≤ 2 ^ 24; decide, fun y5 n35 => ?_⟩
  obtain ⟨S35, e35, f35⟩ := S34.new n35 (.tup [od])
  generalize upd G34 y5 (.tup [od]) = G35 at S35 e35 f35
  refine ⟨ra, y5, _, _, rfl, rfl, (hd_sub _ _ (hr_sub _ _ ((e3.trans (e4.trans (e5.trans (e6.trans (e7.trans (e8.trans (e9.trans (e10.trans (e11.trans (e12.trans (e13.trans (e14.trans (e15.trans (e16.trans (e17.trans (e18.trans (e19.trans (e20.trans (e21.trans (e22.trans (e23.trans (e24.trans (e25.trans (e26.trans (e27.trans (e28.trans (e29.trans (e30.trans (e31.trans (e32.trans (e33.trans (e34.trans e35)))))))))))))))))))))))))))))))) _ _ KA2.rows))), (hd_sub _ _ (hr_sub _ _ f35)), by show _ + 1 ≤ 2 ^ 24; omega, fun c5 G36 t36 q36 => ?_⟩
  obtain ⟨S36, e36⟩ := S35.keep t36
  have f36 := S36.tup q36
  refine ⟨_, rfl, by show 1 ≤ 2 ^ 24; decide, fun y6 n37 => ?_⟩
  obtain ⟨S37, e37, f37⟩ := S36.new n37 (.tup [V.bl true])
  generalize upd G36 y6 (.tup [V.bl true]) = G37 at S37 e37 f37
  refine ⟨ea, y6, _, _, rfl, rfl, (hd_sub _ _ (hr_sub _ _ ((e3.trans (e4.trans (e5.trans (e6.trans (e7.trans (e8.trans (e9.trans (e10.trans (e11.trans (e12.trans (e13.trans (e14.trans (e15.trans (e16.trans (e17.trans (e18.trans (e19.trans (e20.trans (e21.trans (e22.trans (e23.trans (e24.trans (e25.trans (e26.trans (e27.trans (e28.trans (e29.trans (e30.trans (e31.trans (e32.trans (e33.trans (e34.trans (e35.trans (e36.trans e37)))))))))))))))))))))))))))))))))) _ _ KA2.ends))), (hd_sub _ _ (hr_sub _ _ f37)), by rw [List.length_map]; have := KA2.eb; show _ + 1 ≤ 2 ^ 24; omega, fun c6 G38 t38 q38 => ?_⟩
  obtain ⟨S38, e38⟩ := S37.keep t38
  have f38 := S38.tup q38
  refine ⟨by show 3 ≤ 2 ^ 24; decide, fun x10 n39 => ?_⟩
  obtain ⟨S39, e39, f39⟩ := S38.new n39 (.tup [V.int l, V.ref c5, V.ref c6])
  generalize upd G38 x10 (.tup [V.int l, V.ref c5, V.ref c6]) = G39 at S39 e39 f39
  refine ⟨L5, _, _, rfl, rfl, S39.g, by show 10 < 2 ^ 24; decide, ?_⟩
  obtain ⟨S40, e40⟩ := S39.put (([od, V.ref x1, V.ref x2, V.ref x3, V.ref x4, V.ref x5] ++ [V.ref x6, V.ref x7]) ++ [V.ref x8, V.ref x9] ++ [V.ref x10])
  generalize upd G39 L5 (.lst (([od, V.ref x1, V.ref x2, V.ref x3, V.ref x4, V.ref x5] ++ [V.ref x6, V.ref x7]) ++ [V.ref x8, V.ref x9] ++ [V.ref x10])) = G40 at S40 e40
  refine ⟨_, rfl, _, rfl, _, rfl, ra, _, rfl, .inr (.inl (.inl (hd_sub _ _ (hr_sub _ _ ((e3.trans (e4.trans (e5.trans (e6.trans (e7.trans (e8.trans (e9.trans (e10.trans (e11.trans (e12.trans (e13.trans (e14.trans (e15.trans (e16.trans (e17.trans (e18.trans (e19.trans (e20.trans (e21.trans (e22.trans (e23.trans (e24.trans (e25.trans (e26.trans (e27.trans (e28.trans (e29.trans (e30.trans (e31.trans (e32.trans (e33.trans (e34.trans (e35.trans (e36.trans (e37.trans (e38.trans (e39.trans e40))))))))))))))))))))))))))))))))))))) _ _ KA2.rows))))), fun i1 n41 => ?_⟩
  obtain ⟨S41, e41, f41⟩ := S40.new n41 (.lst us)
  generalize upd G40 i1 (.lst us) = G41 at S41 e41 f41
  refine ⟨_, rfl, by show 3 ≤ 2 ^ 24; decide, fun x11 n42 => ?_⟩
  obtain ⟨S42, e42, f42⟩ := S41.new n42 (.tup [V.int l, V.ref i1, V.ref ea])
  generalize upd G41 x11 (.tup [V.int l, V.ref i1, V.ref ea]) = G42 at S42 e42 f42
  refine ⟨_, rfl, _, rfl, _, rfl, ea, _, rfl, .inr (.inl (.inl (hd_sub _ _ (hr_sub _ _ ((e3.trans (e4.trans (e5.trans (e6.trans (e7.trans (e8.trans (e9.trans (e10.trans (e11.trans (e12.trans (e13.trans (e14.trans (e15.trans (e16.trans (e17.trans (e18.trans (e19.trans (e20.trans (e21.trans (e22.trans (e23.trans (e24.trans (e25.trans (e26.trans (e27.trans (e28.trans (e29.trans (e30.trans (e31.trans (e32.trans (e33.trans (e34.trans (e35.trans (e36.trans (e37.trans (e38.trans (e39.trans (e40.trans (e41.trans e42))))))))))))))))))))))))))))))))))))))) _ _ KA2.ends))))), fun i2 n43 => ?_⟩
  obtain ⟨S43, e43, f43⟩ := S42.new n43 (.lst (bs.map V.bl))
  generalize upd G42 i2 (.lst (bs.map V.bl)) = G43 at S43 e43 f43
  refine ⟨by show 3 ≤ 2 ^ 24; decide, fun x12 n44 => ?_⟩
  obtain ⟨S44, e44, f44⟩ := S43.new n44 (.tup [V.int l, V.ref ra, V.ref i2])
  generalize upd G43 x12 (.tup [V.int l, V.ref ra, V.ref i2]) = G44 at S44 e44 f44
  refine ⟨_, rfl, _, _, rfl, rfl, by show (0 : Int) < 4; decide, _, _, rfl, rfl, _, rfl, _, rfl, by show 3 ≤ 2 ^ 24; decide, fun x13 n45 => ?_⟩
  obtain ⟨S45, e45, f45⟩ := S44.new n45 (.tup [V.int (l % 4 + 1), V.ref ra, V.ref ea])
  generalize upd G44 x13 (.tup [V.int (l % 4 + 1), V.ref ra, V.ref ea]) = G45 at S45 e45 f45
  refine ⟨_, rfl, a, _, rfl, .inr (.inl (.inl (hd_sub _ _ (hr_sub _ _ ((e3.trans (e4.trans (e5.trans (e6.trans (e7.trans (e8.trans (e9.trans (e10.trans (e11.trans (e12.trans (e13.trans (e14.trans (e15.trans (e16.trans (e17.trans (e18.trans (e19.trans (e20.trans (e21.trans (e22.trans (e23.trans (e24.trans (e25.trans (e26.trans (e27.trans (e28.trans (e29.trans (e30.trans (e31.trans (e32.trans (e33.trans (e34.trans (e35.trans (e36.trans (e37.trans (e38.trans (e39.trans (e40.trans (e41.trans (e42.trans (e43.trans (e44.trans e45)))))))))))))))))))))))))))))))))))))))))) _ _ KA2.at_))))), fun x14 n46 => ?_⟩
  obtain ⟨S46, e46, f46⟩ := S45.new n46 (.lst [V.int l, V.ref ra, V.ref ea])
  generalize upd G45 x14 (.lst [V.int l, V.ref ra, V.ref ea]) = G46 at S46 e46 f46
  refine ⟨by show 4 ≤ 2 ^ 24; decide, fun L6 n47 => ?_⟩
  obtain ⟨S47, e47, f47⟩ := S46.new n47 (.lst [V.ref x11, V.ref x12, V.ref x13, V.ref x14])
  generalize upd G46 L6 (.lst [V.ref x11, V.ref x12, V.ref x13, V.ref x14]) = G47 at S47 e47 f47
  refine ⟨L5, L6, _, _, rfl, rfl, S47.g, (hd_sub _ _ (hr_sub _ _ f47)), by show 15 ≤ 2 ^ 24; decide, fun L7 n48 => ?_⟩
  obtain ⟨S48, e48x⟩ := SR.start S47.S n48 ((([od, V.ref x1, V.ref x2, V.ref x3, V.ref x4, V.ref x5] ++ [V.ref x6, V.ref x7]) ++ [V.ref x8, V.ref x9] ++ [V.ref x10]) ++ [V.ref x11, V.ref x12, V.ref x13, V.ref x14])
  have e48 := (hr_sub (R := L5)).trans e48x
  generalize upd G47 L7 (.lst ((([od, V.ref x1, V.ref x2, V.ref x3, V.ref x4, V.ref x5] ++ [V.ref x6, V.ref x7]) ++ [V.ref x8, V.ref x9] ++ [V.ref x10]) ++ [V.ref x11, V.ref x12, V.ref x13, V.ref x14])) = G48 at S48 e48
  refine ⟨_, rfl, .inl ⟨rfl, _, .inl (.inl S48.g)⟩, _, rfl, _, rfl, ra, 401, _, rfl, rfl, .inl (.inl (hd_sub _ _ (hr_sub _ _ ((e3.trans (e4.trans (e5.trans (e6.trans (e7.trans (e8.trans (e9.trans (e10.trans (e11.trans (e12.trans (e13.trans (e14.trans (e15.trans (e16.trans (e17.trans (e18.trans (e19.trans (e20.trans (e21.trans (e22.trans (e23.trans (e24.trans (e25.trans (e26.trans (e27.trans (e28.trans (e29.trans (e30.trans (e31.trans (e32.trans (e33.trans (e34.trans (e35.trans (e36.trans (e37.trans (e38.trans (e39.trans (e40.trans (e41.trans (e42.trans (e43.trans (e44.trans (e45.trans (e46.trans (e47.trans e48))))))))))))))))))))))))))))))))))))))))))))) _ _ KA2.rows)))), une, by decide, by decide, by omega, fun e => absurd e (by decide), fun r3 n49 => ?_⟩
  obtain ⟨S49, e49, f49⟩ := S48.new n49 (.tup (List.replicate 401 us).flatten)
  generalize upd G48 r3 (.tup (List.replicate 401 us).flatten) = G49 at S49 e49 f49
  refine ⟨_, rfl, r3, _, rfl, (hd_sub _ _ (hr_sub _ _ f49)), fun b5 G50 t50 q50 => ?_⟩
  obtain ⟨S50, e50⟩ := S49.keep t50
  have f50 := S50.tup q50
  refine ⟨_, rfl, ea, 401, _, rfl, rfl, .inl (.inl (hd_sub _ _ (hr_sub _ _ ((e3.trans (e4.trans (e5.trans (e6.trans (e7.trans (e8.trans (e9.trans (e10.trans (e11.trans (e12.trans (e13.trans (e14.trans (e15.trans (e16.trans (e17.trans (e18.trans (e19.trans (e20.trans (e21.trans (e22.trans (e23.trans (e24.trans (e25.trans (e26.trans (e27.trans (e28.trans (e29.trans (e30.trans (e31.trans (e32.trans (e33.trans (e34.trans (e35.trans (e36.trans (e37.trans (e38.trans (e39.trans (e40.trans (e41.trans (e42.trans (e43.trans (e44.trans (e45.trans (e46.trans (e47.trans (e48.trans (e49.trans e50))))))))))))))))))))))))))))))))))))))))))))))) _ _ KA2.ends)))), bne, by decide, by decide, by rw [List.length_map]; have := KA2.eb; omega, fun e => absurd e (by decide), fun r4 n51 => ?_⟩
  obtain ⟨S51, e51, f51⟩ := S50.new n51 (.tup (List.replicate 401 (bs.map V.bl)).flatten)
  generalize upd G50 r4 (.tup (List.replicate 401 (bs.map V.bl)).flatten) = G51 at S51 e51 f51
  refine ⟨_, rfl, r4, _, rfl, (hd_sub _ _ (hr_sub _ _ f51)), fun b6 G52 t52 q52 => ?_⟩
  obtain ⟨S52, e52⟩ := S51.keep t52
  have f52 := S52.tup q52
  refine ⟨by show 3 ≤ 2 ^ 24; decide, fun x15 n53 => ?_⟩
  obtain ⟨S53, e53, f53⟩ := S52.new n53 (.tup [V.int l, V.ref b5, V.ref b6])
  generalize upd G52 x15 (.tup [V.int l, V.ref b5, V.ref b6]) = G53 at S53 e53 f53
  refine ⟨L7, _, _, rfl, rfl, S53.g, by show 15 < 2 ^ 24; decide, ?_⟩
  obtain ⟨S54, e54⟩ := S53.put ((([od, V.ref x1, V.ref x2, V.ref x3, V.ref x4, V.ref x5] ++ [V.ref x6, V.ref x7]) ++ [V.ref x8, V.ref x9] ++ [V.ref x10]) ++ [V.ref x11, V.ref x12, V.ref x13, V.ref x14] ++ [V.ref x15])
  generalize upd G53 L7 (.lst ((([od, V.ref x1, V.ref x2, V.ref x3, V.ref x4, V.ref x5] ++ [V.ref x6, V.ref x7]) ++ [V.ref x8, V.ref x9] ++ [V.ref x10]) ++ [V.ref x11, V.ref x12, V.ref x13, V.ref x14] ++ [V.ref x15])) = G54 at S54 e54
  refine ⟨_, rfl, _, rfl, _, rfl, by show 0 ≤ 2 ^ 24; decide, fun z1 n55 => ?_⟩
  obtain ⟨S55, e55, f55⟩ := S54.new n55 (.tup [])
  generalize upd G54 z1 (.tup []) = G55 at S55 e55 f55
  refine ⟨by show 0 ≤ 2 ^ 24; decide, fun z2 n56 => ?_⟩
  obtain ⟨S56, e56, f56⟩ := S55.new n56 (.tup [])
  generalize upd G55 z2 (.tup []) = G56 at S56 e56 f56
  refine ⟨by show 3 ≤ 2 ^ 24; decide, fun x16 n57 => ?_⟩
  obtain ⟨S57, e57, f57⟩ := S56.new n57 (.tup [V.int l, V.ref z1, V.ref z2])
  generalize upd G56 x16 (.tup [V.int l, V.ref z1, V.ref z2]) = G57 at S57 e57 f57
  refine ⟨_, rfl, _, rfl, _, rfl, by show 3 ≤ 2 ^ 24; decide, fun x17 n58 => ?_⟩
  obtain ⟨S58, e58, f58⟩ := S57.new n58 (.tup [V.int l, V.ref ra, V.ref ea])
  generalize upd G57 x17 (.tup [V.int l, V.ref ra, V.ref ea]) = G58 at S58 e58 f58
  refine ⟨by show 2 ≤ 2 ^ 24; decide, fun L8 n59 => ?_⟩
  obtain ⟨S59, e59, f59⟩ := S58.new n59 (.lst [V.ref x16, V.ref x17])
  generalize upd G58 L8 (.lst [V.ref x16, V.ref x17]) = G59 at S59 e59 f59
  refine ⟨L7, L8, _, _, rfl, rfl, S59.g, (hd_sub _ _ (hr_sub _ _ f59)), by show 18 ≤ 2 ^ 24; decide, fun L9 n60 => ?_⟩
  obtain ⟨S60, e60x, f60⟩ := S59.S.new n60 (.lst (((([od, V.ref x1, V.ref x2, V.ref x3, V.ref x4, V.ref x5] ++ [V.ref x6, V.ref x7]) ++ [V.ref x8, V.ref x9] ++ [V.ref x10]) ++ [V.ref x11, V.ref x12, V.ref x13, V.ref x14] ++ [V.ref x15]) ++ [V.ref x16, V.ref x17]))
  have e60 := (hr_sub (R := L7)).trans e60x
  generalize upd G59 L9 (.lst (((([od, V.ref x1, V.ref x2, V.ref x3, V.ref x4, V.ref x5] ++ [V.ref x6, V.ref x7]) ++ [V.ref x8, V.ref x9] ++ [V.ref x10]) ++ [V.ref x11, V.ref x12, V.ref x13, V.ref x14] ++ [V.ref x15]) ++ [V.ref x16, V.ref x17])) = G60 at S60 e60 f60
  have KF := KA.same S60.s
  have gR : Ga K (Hd d c G60) 724 us := (rows_ga us KF.row).mono (Nat.le_trans (Nat.mul_le_mul un4 (by have := KF.l4; omega : 44 * l + 5 ≤ 181)) (by decide))
  have gE : Ga K (Hd d c G60) 28 (bs.map V.bl) := (Ga.bools bs).mono (by have := KF.eb; omega)
  have gl : Gv K (Hd d c G60) 42 (V.int l) := Gv.int _ (by have := KF.l4; omega)
  have gO := god2.same ((e6.trans (e7.trans (e8.trans (e9.trans (e10.trans (e11.trans (e12.trans (e13.trans (e14.trans (e15.trans (e16.trans (e17.trans (e18.trans (e19.trans (e20.trans (e21.trans (e22.trans (e23.trans (e24.trans (e25.trans (e26.trans (e27.trans (e28.trans (e29.trans (e30.trans (e31.trans (e32.trans (e33.trans (e34.trans (e35.trans (e36.trans (e37.trans (e38.trans (e39.trans (e40.trans (e41.trans (e42.trans (e43.trans (e44.trans (e45.trans (e46.trans (e47.trans (e48.trans (e49.trans (e50.trans (e51.trans (e52.trans (e53.trans (e54.trans (e55.trans (e56.trans (e57.trans (e58.trans (e59.trans e60)))))))))))))))))))))))))))))))))))))))))))))))))))))))
  have gV := gv.same ((e6.trans (e7.trans (e8.trans (e9.trans (e10.trans (e11.trans (e12.trans (e13.trans (e14.trans (e15.trans (e16.trans (e17.trans (e18.trans (e19.trans (e20.trans (e21.trans (e22.trans (e23.trans (e24.trans (e25.trans (e26.trans (e27.trans (e28.trans (e29.trans (e30.trans (e31.trans (e32.trans (e33.trans (e34.trans (e35.trans (e36.trans (e37.trans (e38.trans (e39.trans (e40.trans (e41.trans (e42.trans (e43.trans (e44.trans (e45.trans (e46.trans (e47.trans (e48.trans (e49.trans (e50.trans (e51.trans (e52.trans (e53.trans (e54.trans (e55.trans (e56.trans (e57.trans (e58.trans (e59.trans e60)))))))))))))))))))))))))))))))))))))))))))))))))))))))
  have gy : Ga K (Hd d c G60) 176 ys := (yg.same emp_same).mono (by have := KF.l4; omega)
  have tR := Gv.tup KF.rows gR
  have tE := Gv.tup KF.ends gE
  have tW := Gv.tup ((e8.trans (e9.trans (e10.trans (e11.trans (e12.trans (e13.trans (e14.trans (e15.trans (e16.trans (e17.trans (e18.trans (e19.trans (e20.trans (e21.trans (e22.trans (e23.trans (e24.trans (e25.trans (e26.trans (e27.trans (e28.trans (e29.trans (e30.trans (e31.trans (e32.trans (e33.trans (e34.trans (e35.trans (e36.trans (e37.trans (e38.trans (e39.trans (e40.trans (e41.trans (e42.trans (e43.trans (e44.trans (e45.trans (e46.trans (e47.trans (e48.trans (e49.trans (e50.trans (e51.trans (e52.trans (e53.trans (e54.trans (e55.trans (e56.trans (e57.trans (e58.trans (e59.trans e60)))))))))))))))))))))))))))))))))))))))))))))))))))) _ _ f7) ((gy.cut none (some (-1))).append (Ga.cons gV Ga.nil))
  have h_x1 : Gv K (Hd d c G60) 400000 (.ref x1) := ((Gv.tup ((e9.trans (e10.trans (e11.trans (e12.trans (e13.trans (e14.trans (e15.trans (e16.trans (e17.trans (e18.trans (e19.trans (e20.trans (e21.trans (e22.trans (e23.trans (e24.trans (e25.trans (e26.trans (e27.trans (e28.trans (e29.trans (e30.trans (e31.trans (e32.trans (e33.trans (e34.trans (e35.trans (e36.trans (e37.trans (e38.trans (e39.trans (e40.trans (e41.trans (e42.trans (e43.trans (e44.trans (e45.trans (e46.trans (e47.trans (e48.trans (e49.trans (e50.trans (e51.trans (e52.trans (e53.trans (e54.trans (e55.trans (e56.trans (e57.trans (e58.trans (e59.trans e60))))))))))))))))))))))))))))))))))))))))))))))))))) _ _ f8) (Ga.cons gl (Ga.cons tR Ga.nil)))).mono (by decide)
  have h_x2 : Gv K (Hd d c G60) 400000 (.ref x2) := ((Gv.tup ((e10.trans (e11.trans (e12.trans (e13.trans (e14.trans (e15.trans (e16.trans (e17.trans (e18.trans (e19.trans (e20.trans (e21.trans (e22.trans (e23.trans (e24.trans (e25.trans (e26.trans (e27.trans (e28.trans (e29.trans (e30.trans (e31.trans (e32.trans (e33.trans (e34.trans (e35.trans (e36.trans (e37.trans (e38.trans (e39.trans (e40.trans (e41.trans (e42.trans (e43.trans (e44.trans (e45.trans (e46.trans (e47.trans (e48.trans (e49.trans (e50.trans (e51.trans (e52.trans (e53.trans (e54.trans (e55.trans (e56.trans (e57.trans (e58.trans (e59.trans e60)))))))))))))))))))))))))))))))))))))))))))))))))) _ _ f9) (Ga.cons gO (Ga.cons tR (Ga.cons tE Ga.nil))))).mono (by decide)
  have h_x3 : Gv K (Hd d c G60) 400000 (.ref x3) := ((Gv.tup ((e11.trans (e12.trans (e13.trans (e14.trans (e15.trans (e16.trans (e17.trans (e18.trans (e19.trans (e20.trans (e21.trans (e22.trans (e23.trans (e24.trans (e25.trans (e26.trans (e27.trans (e28.trans (e29.trans (e30.trans (e31.trans (e32.trans (e33.trans (e34.trans (e35.trans (e36.trans (e37.trans (e38.trans (e39.trans (e40.trans (e41.trans (e42.trans (e43.trans (e44.trans (e45.trans (e46.trans (e47.trans (e48.trans (e49.trans (e50.trans (e51.trans (e52.trans (e53.trans (e54.trans (e55.trans (e56.trans (e57.trans (e58.trans (e59.trans e60))))))))))))))))))))))))))))))))))))))))))))))))) _ _ f10) (Ga.cons gl (Ga.cons gO (Ga.cons tE Ga.nil))))).mono (by decide)
  have h_x4 : Gv K (Hd d c G60) 400000 (.ref x4) := ((Gv.tup ((e12.trans (e13.trans (e14.trans (e15.trans (e16.trans (e17.trans (e18.trans (e19.trans (e20.trans (e21.trans (e22.trans (e23.trans (e24.trans (e25.trans (e26.trans (e27.trans (e28.trans (e29.trans (e30.trans (e31.trans (e32.trans (e33.trans (e34.trans (e35.trans (e36.trans (e37.trans (e38.trans (e39.trans (e40.trans (e41.trans (e42.trans (e43.trans (e44.trans (e45.trans (e46.trans (e47.trans (e48.trans (e49.trans (e50.trans (e51.trans (e52.trans (e53.trans (e54.trans (e55.trans (e56.trans (e57.trans (e58.trans (e59.trans e60)))))))))))))))))))))))))))))))))))))))))))))))) _ _ f11) (Ga.cons gl (Ga.cons tR (Ga.cons gO Ga.nil))))).mono (by decide)
  have h_x5 : Gv K (Hd d c G60) 400000 (.ref x5) := ((Gv.tup ((e14.trans (e15.trans (e16.trans (e17.trans (e18.trans (e19.trans (e20.trans (e21.trans (e22.trans (e23.trans (e24.trans (e25.trans (e26.trans (e27.trans (e28.trans (e29.trans (e30.trans (e31.trans (e32.trans (e33.trans (e34.trans (e35.trans (e36.trans (e37.trans (e38.trans (e39.trans (e40.trans (e41.trans (e42.trans (e43.trans (e44.trans (e45.trans (e46.trans (e47.trans (e48.trans (e49.trans (e50.trans (e51.trans (e52.trans (e53.trans (e54.trans (e55.trans (e56.trans (e57.trans (e58.trans (e59.trans e60)))))))))))))))))))))))))))))))))))))))))))))) _ _ f13) ((Ga.cons gl (Ga.cons tR (Ga.cons tE Ga.nil))).append (Ga.cons gO Ga.nil)))).mono (by decide)
  have tc2 := Gv.tup ((e20.trans (e21.trans (e22.trans (e23.trans (e24.trans (e25.trans (e26.trans (e27.trans (e28.trans (e29.trans (e30.trans (e31.trans (e32.trans (e33.trans (e34.trans (e35.trans (e36.trans (e37.trans (e38.trans (e39.trans (e40.trans (e41.trans (e42.trans (e43.trans (e44.trans (e45.trans (e46.trans (e47.trans (e48.trans (e49.trans (e50.trans (e51.trans (e52.trans (e53.trans (e54.trans (e55.trans (e56.trans (e57.trans (e58.trans (e59.trans e60)))))))))))))))))))))))))))))))))))))))) _ _ f19) (((gR.cut none (some ix)).append (Ga.cons tW Ga.nil)).append (gR.cut (some (ix + 1)) none))
  have h_x6 : Gv K (Hd d c G60) 400000 (.ref x6) := ((Gv.tup ((e21.trans (e22.trans (e23.trans (e24.trans (e25.trans (e26.trans (e27.trans (e28.trans (e29.trans (e30.trans (e31.trans (e32.trans (e33.trans (e34.trans (e35.trans (e36.trans (e37.trans (e38.trans (e39.trans (e40.trans (e41.trans (e42.trans (e43.trans (e44.trans (e45.trans (e46.trans (e47.trans (e48.trans (e49.trans (e50.trans (e51.trans (e52.trans (e53.trans (e54.trans (e55.trans (e56.trans (e57.trans (e58.trans (e59.trans e60))))))))))))))))))))))))))))))))))))))) _ _ f20) (Ga.cons gl (Ga.cons tc2 (Ga.cons tE Ga.nil))))).mono (by decide)
  have tc3 := Gv.tup ((e24.trans (e25.trans (e26.trans (e27.trans (e28.trans (e29.trans (e30.trans (e31.trans (e32.trans (e33.trans (e34.trans (e35.trans (e36.trans (e37.trans (e38.trans (e39.trans (e40.trans (e41.trans (e42.trans (e43.trans (e44.trans (e45.trans (e46.trans (e47.trans (e48.trans (e49.trans (e50.trans (e51.trans (e52.trans (e53.trans (e54.trans (e55.trans (e56.trans (e57.trans (e58.trans (e59.trans e60)))))))))))))))))))))))))))))))))))) _ _ f23) ((gE.cut none (some (-1))).append (Ga.cons gO Ga.nil))
  have h_x7 : Gv K (Hd d c G60) 400000 (.ref x7) := ((Gv.tup ((e25.trans (e26.trans (e27.trans (e28.trans (e29.trans (e30.trans (e31.trans (e32.trans (e33.trans (e34.trans (e35.trans (e36.trans (e37.trans (e38.trans (e39.trans (e40.trans (e41.trans (e42.trans (e43.trans (e44.trans (e45.trans (e46.trans (e47.trans (e48.trans (e49.trans (e50.trans (e51.trans (e52.trans (e53.trans (e54.trans (e55.trans (e56.trans (e57.trans (e58.trans (e59.trans e60))))))))))))))))))))))))))))))))))) _ _ f24) (Ga.cons gl (Ga.cons tR (Ga.cons tc3 Ga.nil))))).mono (by decide)
  have tc4 := Gv.tup ((e29.trans (e30.trans (e31.trans (e32.trans (e33.trans (e34.trans (e35.trans (e36.trans (e37.trans (e38.trans (e39.trans (e40.trans (e41.trans (e42.trans (e43.trans (e44.trans (e45.trans (e46.trans (e47.trans (e48.trans (e49.trans (e50.trans (e51.trans (e52.trans (e53.trans (e54.trans (e55.trans (e56.trans (e57.trans (e58.trans (e59.trans e60))))))))))))))))))))))))))))))) _ _ f28) (gE.append (Ga.cons (Gv.bl true) Ga.nil))
  have h_x8 : Gv K (Hd d c G60) 400000 (.ref x8) := ((Gv.tup ((e30.trans (e31.trans (e32.trans (e33.trans (e34.trans (e35.trans (e36.trans (e37.trans (e38.trans (e39.trans (e40.trans (e41.trans (e42.trans (e43.trans (e44.trans (e45.trans (e46.trans (e47.trans (e48.trans (e49.trans (e50.trans (e51.trans (e52.trans (e53.trans (e54.trans (e55.trans (e56.trans (e57.trans (e58.trans (e59.trans e60)))))))))))))))))))))))))))))) _ _ f29) (Ga.cons gl (Ga.cons tR (Ga.cons tc4 Ga.nil))))).mono (by decide)
  have tr1 := Gv.tup ((e31.trans (e32.trans (e33.trans (e34.trans (e35.trans (e36.trans (e37.trans (e38.trans (e39.trans (e40.trans (e41.trans (e42.trans (e43.trans (e44.trans (e45.trans (e46.trans (e47.trans (e48.trans (e49.trans (e50.trans (e51.trans (e52.trans (e53.trans (e54.trans (e55.trans (e56.trans (e57.trans (e58.trans (e59.trans e60))))))))))))))))))))))))))))) _ _ f30) (gR.rep 9)
  have tr2 := Gv.tup ((e32.trans (e33.trans (e34.trans (e35.trans (e36.trans (e37.trans (e38.trans (e39.trans (e40.trans (e41.trans (e42.trans (e43.trans (e44.trans (e45.trans (e46.trans (e47.trans (e48.trans (e49.trans (e50.trans (e51.trans (e52.trans (e53.trans (e54.trans (e55.trans (e56.trans (e57.trans (e58.trans (e59.trans e60)))))))))))))))))))))))))))) _ _ f31) (gE.rep 9)
  have h_x9 : Gv K (Hd d c G60) 400000 (.ref x9) := ((Gv.tup ((e33.trans (e34.trans (e35.trans (e36.trans (e37.trans (e38.trans (e39.trans (e40.trans (e41.trans (e42.trans (e43.trans (e44.trans (e45.trans (e46.trans (e47.trans (e48.trans (e49.trans (e50.trans (e51.trans (e52.trans (e53.trans (e54.trans (e55.trans (e56.trans (e57.trans (e58.trans (e59.trans e60))))))))))))))))))))))))))) _ _ f32) (Ga.cons gl (Ga.cons tr1 (Ga.cons tr2 Ga.nil))))).mono (by decide)
  have tc5 := Gv.tup ((e37.trans (e38.trans (e39.trans (e40.trans (e41.trans (e42.trans (e43.trans (e44.trans (e45.trans (e46.trans (e47.trans (e48.trans (e49.trans (e50.trans (e51.trans (e52.trans (e53.trans (e54.trans (e55.trans (e56.trans (e57.trans (e58.trans (e59.trans e60))))))))))))))))))))))) _ _ f36) (gR.append (Ga.cons gO Ga.nil))
  have tc6 := Gv.tup ((e39.trans (e40.trans (e41.trans (e42.trans (e43.trans (e44.trans (e45.trans (e46.trans (e47.trans (e48.trans (e49.trans (e50.trans (e51.trans (e52.trans (e53.trans (e54.trans (e55.trans (e56.trans (e57.trans (e58.trans (e59.trans e60))))))))))))))))))))) _ _ f38) (gE.append (Ga.cons (Gv.bl true) Ga.nil))
  have h_x10 : Gv K (Hd d c G60) 400000 (.ref x10) := ((Gv.tup ((e40.trans (e41.trans (e42.trans (e43.trans (e44.trans (e45.trans (e46.trans (e47.trans (e48.trans (e49.trans (e50.trans (e51.trans (e52.trans (e53.trans (e54.trans (e55.trans (e56.trans (e57.trans (e58.trans (e59.trans e60)))))))))))))))))))) _ _ f39) (Ga.cons gl (Ga.cons tc5 (Ga.cons tc6 Ga.nil))))).mono (by decide)
  have ti1 := Gv.lst ((e42.trans (e43.trans (e44.trans (e45.trans (e46.trans (e47.trans (e48.trans (e49.trans (e50.trans (e51.trans (e52.trans (e53.trans (e54.trans (e55.trans (e56.trans (e57.trans (e58.trans (e59.trans e60)))))))))))))))))) _ _ f41) gR
  have ti2 := Gv.lst ((e44.trans (e45.trans (e46.trans (e47.trans (e48.trans (e49.trans (e50.trans (e51.trans (e52.trans (e53.trans (e54.trans (e55.trans (e56.trans (e57.trans (e58.trans (e59.trans e60)))))))))))))))) _ _ f43) gE
  have h_x11 : Gv K (Hd d c G60) 400000 (.ref x11) := ((Gv.tup ((e43.trans (e44.trans (e45.trans (e46.trans (e47.trans (e48.trans (e49.trans (e50.trans (e51.trans (e52.trans (e53.trans (e54.trans (e55.trans (e56.trans (e57.trans (e58.trans (e59.trans e60))))))))))))))))) _ _ f42) (Ga.cons gl (Ga.cons ti1 (Ga.cons tE Ga.nil))))).mono (by decide)
  have h_x12 : Gv K (Hd d c G60) 400000 (.ref x12) := ((Gv.tup ((e45.trans (e46.trans (e47.trans (e48.trans (e49.trans (e50.trans (e51.trans (e52.trans (e53.trans (e54.trans (e55.trans (e56.trans (e57.trans (e58.trans (e59.trans e60))))))))))))))) _ _ f44) (Ga.cons gl (Ga.cons tR (Ga.cons ti2 Ga.nil))))).mono (by decide)
  have gl2 : Gv K (Hd d c G60) 42 (V.int (l % 4 + 1)) := Gv.int _ (by have := KF.l4; omega)
  have h_x13 : Gv K (Hd d c G60) 400000 (.ref x13) := ((Gv.tup ((e46.trans (e47.trans (e48.trans (e49.trans (e50.trans (e51.trans (e52.trans (e53.trans (e54.trans (e55.trans (e56.trans (e57.trans (e58.trans (e59.trans e60)))))))))))))) _ _ f45) (Ga.cons gl2 (Ga.cons tR (Ga.cons tE Ga.nil))))).mono (by decide)
  have h_x14 : Gv K (Hd d c G60) 400000 (.ref x14) := ((Gv.lst ((e47.trans (e48.trans (e49.trans (e50.trans (e51.trans (e52.trans (e53.trans (e54.trans (e55.trans (e56.trans (e57.trans (e58.trans (e59.trans e60))))))))))))) _ _ f46) (Ga.cons gl (Ga.cons tR (Ga.cons tE Ga.nil))))).mono (by decide)
  have tb5 := Gv.tup ((e51.trans (e52.trans (e53.trans (e54.trans (e55.trans (e56.trans (e57.trans (e58.trans (e59.trans e60))))))))) _ _ f50) ((gR.rep 401).cut none (some 401))
  have tb6 := Gv.tup ((e53.trans (e54.trans (e55.trans (e56.trans (e57.trans (e58.trans (e59.trans e60))))))) _ _ f52) ((gE.rep 401).cut none (some 401))
  have h_x15 : Gv K (Hd d c G60) 400000 (.ref x15) := ((Gv.tup ((e54.trans (e55.trans (e56.trans (e57.trans (e58.trans (e59.trans e60)))))) _ _ f53) (Ga.cons gl (Ga.cons tb5 (Ga.cons tb6 Ga.nil))))).mono (by decide)
  have tz1 := Gv.tup (K := K) ((e56.trans (e57.trans (e58.trans (e59.trans e60)))) _ _ f55) Ga.nil
  have tz2 := Gv.tup (K := K) ((e57.trans (e58.trans (e59.trans e60))) _ _ f56) Ga.nil
  have h_x16 : Gv K (Hd d c G60) 400000 (.ref x16) := ((Gv.tup ((e58.trans (e59.trans e60)) _ _ f57) (Ga.cons gl (Ga.cons tz1 (Ga.cons tz2 Ga.nil))))).mono (by decide)
  have h_x17 : Gv K (Hd d c G60) 400000 (.ref x17) := ((Gv.tup ((e59.trans e60) _ _ f58) (Ga.cons gl (Ga.cons tR (Ga.cons tE Ga.nil))))).mono (by decide)
  have al : Gs K (Hd d c G60) 400000 (((([od, V.ref x1, V.ref x2, V.ref x3, V.ref x4, V.ref x5] ++ [V.ref x6, V.ref x7]) ++ [V.ref x8, V.ref x9] ++ [V.ref x10]) ++ [V.ref x11, V.ref x12, V.ref x13, V.ref x14] ++ [V.ref x15]) ++ [V.ref x16, V.ref x17]) := (((((((Gs.cons (gO.mono (by decide)) (Gs.cons h_x1 (Gs.cons h_x2 (Gs.cons h_x3 (Gs.cons h_x4 (Gs.cons h_x5 Gs.nil))))))).append ((Gs.cons h_x6 (Gs.cons h_x7 Gs.nil)))).append ((Gs.cons h_x8 (Gs.cons h_x9 Gs.nil)))).append ((Gs.cons h_x10 Gs.nil))).append ((Gs.cons h_x11 (Gs.cons h_x12 (Gs.cons h_x13 (Gs.cons h_x14 Gs.nil)))))).append ((Gs.cons h_x15 Gs.nil))).append ((Gs.cons h_x16 (Gs.cons h_x17 Gs.nil)))
  refine ⟨d, c, L9, _, _, rfl, S60.D, by omega, f60, by show 0 < 18; decide, by show 18 ≤ 100000; decide, fun v' G' hv' DG sG => ?_⟩
  exact q v' G' ((al v' hv').same sG) DG (S60.s.trans sG)
end
end K17
namespace K17
open PySem GL GZ KW KR GU KU KG
open L2 hiding isNon
open KC hiding rLenS call_lenS
open KX (Small inV_strs flat_strs)
abbrev sBR : Stmt := top 36
def spBR (K : PySem.W.Frag) : Sp := fun vs H Q _ => ∃ (d c r : Addr) (m l : Nat) (us : List V), vs = [.ref d, .int l, .ref r] ∧ Deck H d c m ∧ m ≤ 800000000 ∧ 1 ≤ l ∧ l ≤ 4 ∧ Hd d c H r = some (.tup us) ∧ us.length ≤ 6 ∧ Ga K (Hd d c H) 600 us ∧
  ∀ (v : V) (G : Hp), Gv K (Hd d c G) 400000 v → Deck G d c (m + 20) → Same (Hd d c H) (Hd d c G) → Q v G
abbrev NBR : List Str := ["_law_deck_here", "_law_letters", "_law_rule_here", "_law_odd_here", "_law_size", "_law_pair", "_law_some", "_law_long", "_law_k"]
section
variable {P : Program} {w : World} {K : PySem.W.Frag} {mg : Str → Option Value} {base : Heap}
theorem scBR : FnScope ["_law_deck_here", "_law_letters", "_law_rule_here", "_law_odd_here", "_law_size", "_law_pair", "_law_some", "_law_long", "_law_k"] ["_law_deck_here", "_law_letters", "_law_rule_here"] (defScope sBR) := ⟨rfl, rfl, rfl, by decide +kernel, rfl, by decide +kernel, by decide +kernel⟩
theorem ok_br {f fD fO fX fP : Addr} {fd fdD fdO fdX fdP : FuncData} (F : Fun K "_law_bent_rule" "_law_bent_rule" sBR f fd) (T : Txt mg) (W : Dfn P w K mg base "_law_draw" 1 fD fdD ["_law_deck_here", "_law_many"] spDraw)
    (O : Dfn P w K mg base "_law_one" 2 fO fdO ["_law_deck_here", "_law_items"] spOne) (X : Dfn P w K mg base "_law_odd" 3 fX fdX ["_law_deck_here"] (spOdd K)) (PC : Dfn P w K mg base "_law_piece" 3 fP fdP ["_law_deck_here", "_law_letters", "_law_size"] spPc) :
    FnOk P w K mg base CX0 4 f fd ["_law_deck_here", "_law_letters", "_law_rule_here"] (spBR K) := by
  refine F.ok scBR (fun vs H Q E h => ?_) (fun cdv A outer s H vs Q E hr h => ?_)
  · obtain ⟨d, c, r, m, l, us, rfl, _⟩ := h
    rfl
  obtain ⟨d, c, r, m, l, us, rfl, D, hm, l1, l4, hR, ul, ug, q⟩ := h
  have hr1 : Room 1 _ := hr.mono (by decide)
  have hr2 : Room 2 _ := hr.mono (by decide)
  refine ⟨_, pss_cons (ps_par (i := 3) (j := 4) (by rfl) scBR.nd rfl rfl (by decide) rfl rfl (pa_cons (pe_call X.ok hr rfl X.m X.kp X.b .nil pass0 (pa_cons (pv 0) pa_nil))
        (pa_cons (pe_op op_add pe_int (pe_call W.ok hr1 rfl W.m W.kp W.b .nil pass0 (pa_cons (pv 0) (pa_cons pe_int pa_nil)))) pa_nil)) (by rfl))
    (pss_cons (ps_set (i := 5) scBR.nd rfl (Or.inl rfl) (pe_tup (pa_cons (pe_call PC.ok hr rfl PC.m PC.kp PC.b .nil pass0 (pa_cons (pv 0) (pa_cons pe_int (pa_cons (pv 4) pa_nil)))) (pa_cons (pe_call PC.ok hr rfl PC.m PC.kp PC.b .nil pass0 (pa_cons (pv 0) (pa_cons pe_int (pa_cons (pv 4) pa_nil)))) pa_nil))))
    (pss_cons (ps_set (i := 6) scBR.nd rfl (Or.inl rfl) (pe_lst (pa_cons (pv 3) (pa_cons (pe_callTy call_list_of (by rfl) T.list (by decide +kernel) (pa_cons (pv 2) pa_nil)) (pa_cons (pe_op op_catD (pv 2) (pe_tup (pa_cons (pv 3) pa_nil)))
        (pa_cons (pe_op op_catD (pv 2) (pe_tup (pa_cons (pv 5) pa_nil))) (pa_cons (pe_op op_catD (pv 2) (pv 2)) (pa_cons (pe_op op_catD (pv 2) (pe_tup (pa_cons (pv 5) (pa_cons (pv 5) pa_nil))))
        (pa_cons (pe_op op_catD (pv 2) (pe_tup (pa_cons (pe_callTy call_list_of (by rfl) T.list (by decide +kernel) (pa_cons (pv 5) pa_nil)) pa_nil))) pa_nil)))))))))
    (pss_cons (ps_set (i := 6) scBR.nd rfl (Or.inl rfl) (pe_op op_cat (pv 6) (pe_lst (pa_cons (pe_op op_catD (pv 2) (pe_tup (pa_cons (pe_tup (pa_cons (pe_ix ix_tup (pv 5) pe_int (fun _ _ => rfl)) (pa_cons (pe_ix ix_tup (pv 5) pe_int (fun _ _ => rfl)) pa_nil))) pa_nil)))
        (pa_cons (pe_op op_catD (pv 2) (pe_tup (pa_cons (pe_op op_catD (pv 5) (pe_slice sl_tupD (pv 5) po_none (po_some pe_int))) pa_nil))) (pa_cons (pe_op op_catD (pe_tup (pa_cons (pv 5) pa_nil)) (pv 2))
        (pa_cons (pe_op op_catD (pv 2) (pe_tup (pa_cons (pe_tup (pa_cons (pe_ix ix_tup (pv 5) pe_int (fun _ _ => rfl)) (pa_cons (pv 3) pa_nil))) pa_nil))) pa_nil)))))))
    (pss_cons (ps_set (i := 7) scBR.nd rfl (Or.inl rfl) (pe_callTy call_tuple_of (by rfl) T.c.tuple (by decide +kernel) (pa_cons (pe_lc (own := [("_law_k", 8)]) (g := gName 8) (tt := tYes) rfl scBR.nd (pi_range1 rfl T.c.range (pa_cons (pv 1) pa_nil))
        (blkOk_by (own := [("_law_k", 8)]) (N := NBR) (sc := defScope sBR) (by decide +kernel)) (fun _ _ _ _ _ => pg_name (i := 8) scBR.nd rfl (Or.inl rfl)) (fun _ _ _ _ _ => pts_nil)
        (fun _ _ _ _ _ => pe_tup (pa_cons (pe_op op_add_str (pe_ix ix_str pe_str (pv 8) (fun _ _ => rfl)) pe_str) (pa_cons (pe_op op_add_str (pe_ix ix_str pe_str (pv 8) (fun _ _ => rfl)) pe_str) pa_nil)))) pa_nil)))
    (pss_cons (ps_set (i := 6) scBR.nd rfl (Or.inl rfl) (pe_op op_cat (pv 6) (pe_lst (pa_cons (pe_op op_catD (pv 2) (pe_tup (pa_cons (pe_tup (pa_cons (pv 3) (pa_cons (pe_ix ix_tup (pv 5) pe_int (fun _ _ => rfl)) pa_nil))) pa_nil)))
        (pa_cons (pe_op op_catD (pv 2) (pe_tup (pa_cons (pe_tup (pa_cons pe_str (pa_cons pe_str pa_nil))) pa_nil))) (pa_cons (pe_op op_catD (pv 7) (pv 7))
        (pa_cons (pe_op op_catD (pv 7) (pe_tup (pa_cons (pe_tup (pa_cons pe_str (pa_cons pe_str pa_nil))) (pa_cons (pe_tup (pa_cons pe_str (pa_cons pe_str pa_nil))) pa_nil)))) pa_nil)))))))
    (pss_one (ps_ret (pe_call O.ok hr2 rfl O.m O.kp O.b .nil pass0 (pa_cons (pv 0) (pa_cons (pe_op op_cat (pv 6) (pe_lst (pa_cons (pe_op op_catD (pv 7) (pe_tup (pa_cons (pe_tup (pa_cons pe_str (pa_cons pe_str pa_nil))) (pa_cons (pe_tup (pa_cons pe_str (pa_cons pe_str pa_nil)))
        (pa_cons (pe_tup (pa_cons pe_str (pa_cons pe_str pa_nil))) pa_nil))))) (pa_cons (pv 2) pa_nil)))) pa_nil)))))))))), ?_⟩
  refine ⟨_, rfl, d, c, m, rfl, D, by omega, fun od G1 god D1 s1 => ?_⟩
  refine ⟨_, rfl, d, c, 4, _, rfl, D1, by omega, by decide, by decide, fun z G2 z0 z1 D2 s2 => ⟨_, _, rfl, rfl, _, _, rfl, ?_⟩⟩
  obtain ⟨sz, rfl⟩ : ∃ sz : Nat, z = (sz : Int) := ⟨z.toNat, by omega⟩
  refine ⟨_, rfl, _, rfl, d, c, 4, 1 + sz, _, rfl, D2, by omega, by decide, by decide, by omega, fun x G3 wx D3 s3 => ?_⟩
  refine ⟨_, rfl, _, rfl, d, c, 4, 1 + sz, _, rfl, D3, by omega, by decide, by decide, by omega, fun y G4 wy D4 s4 => ?_⟩
  have wx := wx.mono (show 1 + sz ≤ 4 by omega)
  have wy := wy.mono (show 1 + sz ≤ 4 by omega)
  have sH := s1.trans (s2.trans (s3.trans s4))
  have S3 : St H d c (m + 12) G4 := ⟨D4.mono (by omega), sH⟩
  have god3 := god.same (s2.trans (s3.trans s4))
  have r3 := sH _ _ hR
  refine ⟨by show 2 ≤ 2 ^ 24; decide, fun pr n4 => ?_⟩
  obtain ⟨S4, e4, f4⟩ := S3.new n4 (.tup [V.str x, V.str y])
  generalize upd G4 pr (.tup [V.str x, V.str y]) = G4 at S4 e4 f4
  refine ⟨_, rfl, _, rfl, r, _, rfl, .inr (.inl (.inl (hd_sub _ _ (e4 _ _ r3)))), fun x1 n5 => ?_⟩
  obtain ⟨S5, e5, f5⟩ := S4.new n5 (.lst us)
  generalize upd G4 x1 (.lst us) = G5 at S5 e5 f5
  refine ⟨_, rfl, _, rfl, by show 1 ≤ 2 ^ 24; decide, fun y1 n6 => ?_⟩
  obtain ⟨S6, e6, f6⟩ := S5.new n6 (.tup [od])
  generalize upd G5 y1 (.tup [od]) = G6 at S6 e6 f6
  refine ⟨r, y1, _, _, rfl, rfl, (hd_sub _ _ ((e4.trans (e5.trans e6)) _ _ r3)), (hd_sub _ _ f6), by show _ + 1 ≤ 2 ^ 24; omega, fun x2 G7 t7 q7 => ?_⟩
  obtain ⟨S7, e7⟩ := S6.keep t7
  have f7 : Hd d c G7 x2 = some (.tup (us ++ [od])) := S7.D.tup q7
  refine ⟨_, rfl, _, rfl, by show 1 ≤ 2 ^ 24; decide, fun y2 n8 => ?_⟩
  obtain ⟨S8, e8, f8⟩ := S7.new n8 (.tup [V.ref pr])
  generalize upd G7 y2 (.tup [V.ref pr]) = G8 at S8 e8 f8
  refine ⟨r, y2, _, _, rfl, rfl, (hd_sub _ _ ((e4.trans (e5.trans (e6.trans (e7.trans e8)))) _ _ r3)), (hd_sub _ _ f8), by show _ + 1 ≤ 2 ^ 24; omega, fun x3 G9 t9 q9 => ?_⟩
  obtain ⟨S9, e9⟩ := S8.keep t9
  have f9 : Hd d c G9 x3 = some (.tup (us ++ [V.ref pr])) := S9.D.tup q9
  refine ⟨_, rfl, _, rfl, r, r, _, _, rfl, rfl, (hd_sub _ _ ((e4.trans (e5.trans (e6.trans (e7.trans (e8.trans e9))))) _ _ r3)), (hd_sub _ _ ((e4.trans (e5.trans (e6.trans (e7.trans (e8.trans e9))))) _ _ r3)), by show _ + _ ≤ 2 ^ 24; omega, fun x4 G10 t10 q10 => ?_⟩
  obtain ⟨S10, e10⟩ := S9.keep t10
  have f10 : Hd d c G10 x4 = some (.tup (us ++ us)) := S10.D.tup q10
  refine ⟨_, rfl, _, rfl, _, rfl, by show 2 ≤ 2 ^ 24; decide, fun y3 n11 => ?_⟩
  obtain ⟨S11, e11, f11⟩ := S10.new n11 (.tup [V.ref pr, V.ref pr])
  generalize upd G10 y3 (.tup [V.ref pr, V.ref pr]) = G11 at S11 e11 f11
  refine ⟨r, y3, _, _, rfl, rfl, (hd_sub _ _ ((e4.trans (e5.trans (e6.trans (e7.trans (e8.trans (e9.trans (e10.trans e11))))))) _ _ r3)), (hd_sub _ _ f11), by show _ + 2 ≤ 2 ^ 24; omega, fun x5 G12 t12 q12 => ?_⟩
  obtain ⟨S12, e12⟩ := S11.keep t12
  have f12 : Hd d c G12 x5 = some (.tup (us ++ [V.ref pr, V.ref pr])) := S12.D.tup q12
  refine ⟨_, rfl, _, rfl, pr, _, rfl, .inr (.inl (.inl (hd_sub _ _ ((e5.trans (e6.trans (e7.trans (e8.trans (e9.trans (e10.trans (e11.trans e12))))))) _ _ f4)))), fun i1 n13 => ?_⟩
  obtain ⟨S13, e13, f13⟩ := S12.new n13 (.lst [V.str x, V.str y])
  generalize upd G12 i1 (.lst [V.str x, V.str y]) = G13 at S13 e13 f13
  refine ⟨by show 1 ≤ 2 ^ 24; decide, fun y4 n14 => ?_⟩
  obtain ⟨S14, e14, f14⟩ := S13.new n14 (.tup [V.ref i1])
  generalize upd G13 y4 (.tup [V.ref i1]) = G14 at S14 e14 f14
  refine ⟨r, y4, _, _, rfl, rfl, (hd_sub _ _ ((e4.trans (e5.trans (e6.trans (e7.trans (e8.trans (e9.trans (e10.trans (e11.trans (e12.trans (e13.trans e14)))))))))) _ _ r3)), (hd_sub _ _ f14), by show _ + 1 ≤ 2 ^ 24; omega, fun x6 G15 t15 q15 => ?_⟩
  obtain ⟨S15, e15⟩ := S14.keep t15
  have f15 : Hd d c G15 x6 = some (.tup (us ++ [V.ref i1])) := S15.D.tup q15
  refine ⟨by show 7 ≤ 2 ^ 24; decide, fun L1 n16 => ?_⟩
  obtain ⟨S16, e16, f16⟩ := S15.new n16 (.lst [od, V.ref x1, V.ref x2, V.ref x3, V.ref x4, V.ref x5, V.ref x6])
  generalize upd G15 L1 (.lst [od, V.ref x1, V.ref x2, V.ref x3, V.ref x4, V.ref x5, V.ref x6]) = G16 at S16 e16 f16
  refine ⟨_, rfl, _, rfl, _, rfl, pr, _, 0, _, rfl, rfl, .inl (.inl (hd_sub _ _ ((e5.trans (e6.trans (e7.trans (e8.trans (e9.trans (e10.trans (e11.trans (e12.trans (e13.trans (e14.trans (e15.trans e16))))))))))) _ _ f4))), rfl, _, rfl, pr, _, 0, _, rfl, rfl, .inl (.inl (hd_sub _ _ ((e5.trans (e6.trans (e7.trans (e8.trans (e9.trans (e10.trans (e11.trans (e12.trans (e13.trans (e14.trans (e15.trans e16))))))))))) _ _ f4))), rfl, by show 2 ≤ 2 ^ 24; decide, fun y5 n17 => ?_⟩
  obtain ⟨S17, e17, f17⟩ := S16.new n17 (.tup [V.str x, V.str x])
  generalize upd G16 y5 (.tup [V.str x, V.str x]) = G17 at S17 e17 f17
  refine ⟨by show 1 ≤ 2 ^ 24; decide, fun y6 n18 => ?_⟩
  obtain ⟨S18, e18, f18⟩ := S17.new n18 (.tup [V.ref y5])
  generalize upd G17 y6 (.tup [V.ref y5]) = G18 at S18 e18 f18
  refine ⟨r, y6, _, _, rfl, rfl, (hd_sub _ _ ((e4.trans (e5.trans (e6.trans (e7.trans (e8.trans (e9.trans (e10.trans (e11.trans (e12.trans (e13.trans (e14.trans (e15.trans (e16.trans (e17.trans e18)))))))))))))) _ _ r3)), (hd_sub _ _ f18), by show _ + 1 ≤ 2 ^ 24; omega, fun x7 G19 t19 q19 => ?_⟩
  obtain ⟨S19, e19⟩ := S18.keep t19
  have f19 : Hd d c G19 x7 = some (.tup (us ++ [V.ref y5])) := S19.D.tup q19
  refine ⟨_, rfl, _, rfl, _, rfl, _, rfl, pr, _, rfl, (hd_sub _ _ ((e5.trans (e6.trans (e7.trans (e8.trans (e9.trans (e10.trans (e11.trans (e12.trans (e13.trans (e14.trans (e15.trans (e16.trans (e17.trans (e18.trans e19)))))))))))))) _ _ f4)), fun b1 G20 t20 q20 => ?_⟩
  obtain ⟨S20, e20⟩ := S19.keep t20
  have f20 : Hd d c G20 b1 = some (.tup (cutV [V.str x, V.str y] none (some 1))) := S20.D.tup q20
  refine ⟨pr, b1, _, _, rfl, rfl, (hd_sub _ _ ((e5.trans (e6.trans (e7.trans (e8.trans (e9.trans (e10.trans (e11.trans (e12.trans (e13.trans (e14.trans (e15.trans (e16.trans (e17.trans (e18.trans (e19.trans e20))))))))))))))) _ _ f4)), (hd_sub _ _ f20), by show 2 + 1 ≤ 2 ^ 24; decide, fun c1 G21 t21 q21 => ?_⟩
  obtain ⟨S21, e21⟩ := S20.keep t21
  have f21 : Hd d c G21 c1 = some (.tup ([V.str x, V.str y] ++ cutV [V.str x, V.str y] none (some 1))) := S21.D.tup q21
  refine ⟨by show 1 ≤ 2 ^ 24; decide, fun y7 n22 => ?_⟩
  obtain ⟨S22, e22, f22⟩ := S21.new n22 (.tup [V.ref c1])
  generalize upd G21 y7 (.tup [V.ref c1]) = G22 at S22 e22 f22
  refine ⟨r, y7, _, _, rfl, rfl, (hd_sub _ _ ((e4.trans (e5.trans (e6.trans (e7.trans (e8.trans (e9.trans (e10.trans (e11.trans (e12.trans (e13.trans (e14.trans (e15.trans (e16.trans (e17.trans (e18.trans (e19.trans (e20.trans (e21.trans e22)))))))))))))))))) _ _ r3)), (hd_sub _ _ f22), by show _ + 1 ≤ 2 ^ 24; omega, fun x8 G23 t23 q23 => ?_⟩
  obtain ⟨S23, e23⟩ := S22.keep t23
  have f23 : Hd d c G23 x8 = some (.tup (us ++ [V.ref c1])) := S23.D.tup q23
  refine ⟨_, rfl, by show 1 ≤ 2 ^ 24; decide, fun y8 n24 => ?_⟩
  obtain ⟨S24, e24, f24⟩ := S23.new n24 (.tup [V.ref pr])
  generalize upd G23 y8 (.tup [V.ref pr]) = G24 at S24 e24 f24
  refine ⟨_, rfl, y8, r, _, _, rfl, rfl, (hd_sub _ _ f24), (hd_sub _ _ ((e4.trans (e5.trans (e6.trans (e7.trans (e8.trans (e9.trans (e10.trans (e11.trans (e12.trans (e13.trans (e14.trans (e15.trans (e16.trans (e17.trans (e18.trans (e19.trans (e20.trans (e21.trans (e22.trans (e23.trans e24)))))))))))))))))))) _ _ r3)), by show 1 + _ ≤ 2 ^ 24; omega, fun x9 G25 t25 q25 => ?_⟩
  obtain ⟨S25, e25⟩ := S24.keep t25
  have f25 : Hd d c G25 x9 = some (.tup ([V.ref pr] ++ us)) := S25.D.tup q25
  refine ⟨_, rfl, _, rfl, pr, _, 0, _, rfl, rfl, .inl (.inl (hd_sub _ _ ((e5.trans (e6.trans (e7.trans (e8.trans (e9.trans (e10.trans (e11.trans (e12.trans (e13.trans (e14.trans (e15.trans (e16.trans (e17.trans (e18.trans (e19.trans (e20.trans (e21.trans (e22.trans (e23.trans (e24.trans e25)))))))))))))))))))) _ _ f4))), rfl, _, rfl, by show 2 ≤ 2 ^ 24; decide, fun y9 n26 => ?_⟩
  obtain ⟨S26, e26, f26⟩ := S25.new n26 (.tup [V.str x, od])
  generalize upd G25 y9 (.tup [V.str x, od]) = G26 at S26 e26 f26
  refine ⟨by show 1 ≤ 2 ^ 24; decide, fun ya n27 => ?_⟩
  obtain ⟨S27, e27, f27⟩ := S26.new n27 (.tup [V.ref y9])
  generalize upd G26 ya (.tup [V.ref y9]) = G27 at S27 e27 f27
  refine ⟨r, ya, _, _, rfl, rfl, (hd_sub _ _ ((e4.trans (e5.trans (e6.trans (e7.trans (e8.trans (e9.trans (e10.trans (e11.trans (e12.trans (e13.trans (e14.trans (e15.trans (e16.trans (e17.trans (e18.trans (e19.trans (e20.trans (e21.trans (e22.trans (e23.trans (e24.trans (e25.trans (e26.trans e27))))))))))))))))))))))) _ _ r3)), (hd_sub _ _ f27), by show _ + 1 ≤ 2 ^ 24; omega, fun xa G28 t28 q28 => ?_⟩
  obtain ⟨S28, e28⟩ := S27.keep t28
  have f28 : Hd d c G28 xa = some (.tup (us ++ [V.ref y9])) := S28.D.tup q28
  refine ⟨by show 4 ≤ 2 ^ 24; decide, fun L2 n29 => ?_⟩
  obtain ⟨S29, e29, f29⟩ := S28.new n29 (.lst [V.ref x7, V.ref x8, V.ref x9, V.ref xa])
  generalize upd G28 L2 (.lst [V.ref x7, V.ref x8, V.ref x9, V.ref xa]) = G29 at S29 e29 f29
  refine ⟨L1, L2, _, _, rfl, rfl, (hd_sub _ _ ((e17.trans (e18.trans (e19.trans (e20.trans (e21.trans (e22.trans (e23.trans (e24.trans (e25.trans (e26.trans (e27.trans (e28.trans e29)))))))))))) _ _ f16)), (hd_sub _ _ f29), by show 11 ≤ 2 ^ 24; decide, fun L3 n30 => ?_⟩
  obtain ⟨S30, e30, f30⟩ := S29.new n30 (.lst ([od, V.ref x1, V.ref x2, V.ref x3, V.ref x4, V.ref x5, V.ref x6] ++ [V.ref x7, V.ref x8, V.ref x9, V.ref xa]))
  generalize upd G29 L3 (.lst ([od, V.ref x1, V.ref x2, V.ref x3, V.ref x4, V.ref x5, V.ref x6] ++ [V.ref x7, V.ref x8, V.ref x9, V.ref xa])) = G30 at S30 e30 f30
  refine ⟨_, rfl, l, rfl, by omega, by omega, fun L nL => lc_range (lo := 0) (n := l) (fun j G' => St H d c (m + 12) G' ∧ Same (Hd d c G30) (Hd d c G') ∧ ∃ ts : List V, G' L = some (.lst ts) ∧ ts.length = j ∧ ∀ u ∈ ts, PairAt (Hd d c G') u)
    ⟨(S30.new nL _).1, (S30.new nL _).2.1, [], upd_same, rfl, fun u h => nomatch h⟩ ?_ ?_⟩
  · rintro j G' hj ⟨SG, e', ts, t1, t2, t3⟩
    have fL := S30.D.free nL
    obtain ⟨cc, hc, hcl⟩ : ∃ cc, ("abcd" : Str).cps.toList[j]? = some cc ∧ cc < 1000 := by
      have : j < 4 := by omega
      match j, this with
      | 0, _ => exact ⟨97, rfl, by decide⟩
      | 1, _ => exact ⟨98, rfl, by decide⟩
      | 2, _ => exact ⟨99, rfl, by decide⟩
      | 3, _ => exact ⟨100, rfl, by decide⟩
    have hc' : atI ("abcd" : Str).cps.toList (0 + (j : Int)) = some cc := by rw [Int.zero_add]; exact atI_nat hc
    have w1 : Wd 1 (⟨#[cc]⟩ : Str) := ⟨Nat.le_refl _, fun z hz => by have hz' : z ∈ [cc] := hz; rw [List.mem_singleton.mp hz']; exact hcl⟩
    refine ⟨rfl, _, rfl, _, _, cc, rfl, rfl, by decide, hc', _, _, rfl, rfl, by show 1 + 2 ≤ 2 ^ 24; decide, _, rfl, _, _, cc, rfl, rfl, by decide, hc', _, _, rfl, rfl, by show 1 + 2 ≤ 2 ^ 24; decide, by show 2 ≤ 2 ^ 24; decide, fun t nt => ?_⟩
    obtain ⟨S', e'', f'⟩ := SG.new nt (.tup [V.str ((⟨#[cc]⟩ : Str) ++ "ab"), V.str ((⟨#[cc]⟩ : Str) ++ "ba")])
    have g' := same_new nt (.tup [V.str ((⟨#[cc]⟩ : Str) ++ "ab"), V.str ((⟨#[cc]⟩ : Str) ++ "ba")]) _ _ t1
    generalize upd G' t (.tup [V.str ((⟨#[cc]⟩ : Str) ++ "ab"), V.str ((⟨#[cc]⟩ : Str) ++ "ba")]) = G'' at S' e'' f' g'
    refine ⟨_, g', by rw [t2]; show j < 2 ^ 24; omega, ⟨S'.D.put fL.1 fL.2 _, hd_grow (S30.s.free (hd_none nL)) S'.s _⟩, hd_grow (hd_none nL) (e'.trans e'') _, ts ++ [V.ref t], upd_same, by rw [List.length_append, t2]; rfl, fun u hu => ?_⟩
    have h6 : PairAt (Hd d c G'') u := by
      rcases List.mem_append.mp hu with hu | hu
      · exact (t3 u hu).same e''
      · rw [List.mem_singleton.mp hu]
        exact ⟨t, _, _, rfl, f', w1.app (m := 2) ⟨by decide, by decide⟩, w1.app (m := 2) ⟨by decide, by decide⟩⟩
    obtain ⟨t', x', y', v1, v2, v3⟩ := h6
    obtain ⟨v4, v5, v6⟩ := hd_some v2
    refine ⟨t', x', y', v1, hd_of ?_ v5 v6, v3⟩
    rw [upd_ne (fun e => by rw [e, g'] at v4; cases v4)]
    exact v4
  rintro G31 ⟨S31, e31, ts, t1, t2, t3⟩
  refine ⟨L, ts, rfl, .inl ⟨.inl (.inl t1), fun lg n32 => ?_⟩⟩
  obtain ⟨S32, e32, f32⟩ := S31.new n32 (.tup ts)
  have t4 : ∀ u ∈ ts, PairAt (Hd d c (upd G31 lg (.tup ts))) u := fun u hu => (t3 u hu).same e32
  generalize upd G31 lg (.tup ts) = G32 at S32 e32 f32 t4
  refine ⟨_, rfl, _, rfl, _, rfl, _, rfl, pr, _, 1, _, rfl, rfl, .inl (.inl (hd_sub _ _ ((e5.trans (e6.trans (e7.trans (e8.trans (e9.trans (e10.trans (e11.trans (e12.trans (e13.trans (e14.trans (e15.trans (e16.trans (e17.trans (e18.trans (e19.trans (e20.trans (e21.trans (e22.trans (e23.trans (e24.trans (e25.trans (e26.trans (e27.trans (e28.trans (e29.trans (e30.trans (e31.trans e32))))))))))))))))))))))))))) _ _ f4))), rfl, by show 2 ≤ 2 ^ 24; decide, fun yb n33 => ?_⟩
  obtain ⟨S33, e33, f33⟩ := S32.new n33 (.tup [od, V.str y])
  generalize upd G32 yb (.tup [od, V.str y]) = G33 at S33 e33 f33
  refine ⟨by show 1 ≤ 2 ^ 24; decide, fun yc n34 => ?_⟩
  obtain ⟨S34, e34, f34⟩ := S33.new n34 (.tup [V.ref yb])
  generalize upd G33 yc (.tup [V.ref yb]) = G34 at S34 e34 f34
  refine ⟨r, yc, _, _, rfl, rfl, (hd_sub _ _ ((e4.trans (e5.trans (e6.trans (e7.trans (e8.trans (e9.trans (e10.trans (e11.trans (e12.trans (e13.trans (e14.trans (e15.trans (e16.trans (e17.trans (e18.trans (e19.trans (e20.trans (e21.trans (e22.trans (e23.trans (e24.trans (e25.trans (e26.trans (e27.trans (e28.trans (e29.trans (e30.trans (e31.trans (e32.trans (e33.trans e34)))))))))))))))))))))))))))))) _ _ r3)), (hd_sub _ _ f34), by show _ + 1 ≤ 2 ^ 24; omega, fun xb G35 t35 q35 => ?_⟩
  obtain ⟨S35, e35⟩ := S34.keep t35
  have f35 : Hd d c G35 xb = some (.tup (us ++ [V.ref yb])) := S35.D.tup q35
  refine ⟨_, rfl, by show 2 ≤ 2 ^ 24; decide, fun yd n36 => ?_⟩
  obtain ⟨S36, e36, f36⟩ := S35.new n36 (.tup [V.str "", V.str ""])
  generalize upd G35 yd (.tup [V.str "", V.str ""]) = G36 at S36 e36 f36
  refine ⟨by show 1 ≤ 2 ^ 24; decide, fun ye n37 => ?_⟩
  obtain ⟨S37, e37, f37⟩ := S36.new n37 (.tup [V.ref yd])
  generalize upd G36 ye (.tup [V.ref yd]) = G37 at S37 e37 f37
  refine ⟨r, ye, _, _, rfl, rfl, (hd_sub _ _ ((e4.trans (e5.trans (e6.trans (e7.trans (e8.trans (e9.trans (e10.trans (e11.trans (e12.trans (e13.trans (e14.trans (e15.trans (e16.trans (e17.trans (e18.trans (e19.trans (e20.trans (e21.trans (e22.trans (e23.trans (e24.trans (e25.trans (e26.trans (e27.trans (e28.trans (e29.trans (e30.trans (e31.trans (e32.trans (e33.trans (e34.trans (e35.trans (e36.trans e37))))))))))))))))))))))))))))))))) _ _ r3)), (hd_sub _ _ f37), by show _ + 1 ≤ 2 ^ 24; omega, fun xc G38 t38 q38 => ?_⟩
  obtain ⟨S38, e38⟩ := S37.keep t38
  have f38 : Hd d c G38 xc = some (.tup (us ++ [V.ref yd])) := S38.D.tup q38
  refine ⟨_, rfl, _, rfl, lg, lg, _, _, rfl, rfl, (hd_sub _ _ ((e33.trans (e34.trans (e35.trans (e36.trans (e37.trans e38))))) _ _ f32)), (hd_sub _ _ ((e33.trans (e34.trans (e35.trans (e36.trans (e37.trans e38))))) _ _ f32)), by show _ + _ ≤ 2 ^ 24; omega, fun xd G39 t39 q39 => ?_⟩
  obtain ⟨S39, e39⟩ := S38.keep t39
  have f39 : Hd d c G39 xd = some (.tup (ts ++ ts)) := S39.D.tup q39
  refine ⟨_, rfl, by show 2 ≤ 2 ^ 24; decide, fun yf n40 => ?_⟩
  obtain ⟨S40, e40, f40⟩ := S39.new n40 (.tup [V.str "aa", V.str "ab"])
  generalize upd G39 yf (.tup [V.str "aa", V.str "ab"]) = G40 at S40 e40 f40
  refine ⟨by show 2 ≤ 2 ^ 24; decide, fun yg n41 => ?_⟩
  obtain ⟨S41, e41, f41⟩ := S40.new n41 (.tup [V.str "ba", V.str "bb"])
  generalize upd G40 yg (.tup [V.str "ba", V.str "bb"]) = G41 at S41 e41 f41
  refine ⟨by show 2 ≤ 2 ^ 24; decide, fun yh n42 => ?_⟩
  obtain ⟨S42, e42, f42⟩ := S41.new n42 (.tup [V.ref yf, V.ref yg])
  generalize upd G41 yh (.tup [V.ref yf, V.ref yg]) = G42 at S42 e42 f42
  refine ⟨lg, yh, _, _, rfl, rfl, (hd_sub _ _ ((e33.trans (e34.trans (e35.trans (e36.trans (e37.trans (e38.trans (e39.trans (e40.trans (e41.trans e42))))))))) _ _ f32)), (hd_sub _ _ f42), by show _ + 2 ≤ 2 ^ 24; omega, fun xe G43 t43 q43 => ?_⟩
  obtain ⟨S43, e43⟩ := S42.keep t43
  have f43 : Hd d c G43 xe = some (.tup (ts ++ [V.ref yf, V.ref yg])) := S43.D.tup q43
  refine ⟨by show 4 ≤ 2 ^ 24; decide, fun L4 n44 => ?_⟩
  obtain ⟨S44, e44, f44⟩ := S43.new n44 (.lst [V.ref xb, V.ref xc, V.ref xd, V.ref xe])
  generalize upd G43 L4 (.lst [V.ref xb, V.ref xc, V.ref xd, V.ref xe]) = G44 at S44 e44 f44
  refine ⟨L3, L4, _, _, rfl, rfl, (hd_sub _ _ ((e31.trans (e32.trans (e33.trans (e34.trans (e35.trans (e36.trans (e37.trans (e38.trans (e39.trans (e40.trans (e41.trans (e42.trans (e43.trans e44))))))))))))) _ _ f30)), (hd_sub _ _ f44), by show 15 ≤ 2 ^ 24; decide, fun L5 n45 => ?_⟩
  obtain ⟨S45, e45, f45⟩ := S44.new n45 (.lst (([od, V.ref x1, V.ref x2, V.ref x3, V.ref x4, V.ref x5, V.ref x6] ++ [V.ref x7, V.ref x8, V.ref x9, V.ref xa]) ++ [V.ref xb, V.ref xc, V.ref xd, V.ref xe]))
  generalize upd G44 L5 (.lst (([od, V.ref x1, V.ref x2, V.ref x3, V.ref x4, V.ref x5, V.ref x6] ++ [V.ref x7, V.ref x8, V.ref x9, V.ref xa]) ++ [V.ref xb, V.ref xc, V.ref xd, V.ref xe])) = G45 at S45 e45 f45
  refine ⟨_, rfl, _, rfl, _, rfl, by show 2 ≤ 2 ^ 24; decide, fun yi n46 => ?_⟩
  obtain ⟨S46, e46, f46⟩ := S45.new n46 (.tup [V.str "aa", V.str "ab"])
  generalize upd G45 yi (.tup [V.str "aa", V.str "ab"]) = G46 at S46 e46 f46
  refine ⟨by show 2 ≤ 2 ^ 24; decide, fun yj n47 => ?_⟩
  obtain ⟨S47, e47, f47⟩ := S46.new n47 (.tup [V.str "ba", V.str "bb"])
  generalize upd G46 yj (.tup [V.str "ba", V.str "bb"]) = G47 at S47 e47 f47
  refine ⟨by show 2 ≤ 2 ^ 24; decide, fun yk n48 => ?_⟩
  obtain ⟨S48, e48, f48⟩ := S47.new n48 (.tup [V.str "b", V.str "a"])
  generalize upd G47 yk (.tup [V.str "b", V.str "a"]) = G48 at S48 e48 f48
  refine ⟨by show 3 ≤ 2 ^ 24; decide, fun yl n49 => ?_⟩
  obtain ⟨S49, e49, f49⟩ := S48.new n49 (.tup [V.ref yi, V.ref yj, V.ref yk])
  generalize upd G48 yl (.tup [V.ref yi, V.ref yj, V.ref yk]) = G49 at S49 e49 f49
  refine ⟨lg, yl, _, _, rfl, rfl, (hd_sub _ _ ((e33.trans (e34.trans (e35.trans (e36.trans (e37.trans (e38.trans (e39.trans (e40.trans (e41.trans (e42.trans (e43.trans (e44.trans (e45.trans (e46.trans (e47.trans (e48.trans e49)))))))))))))))) _ _ f32)), (hd_sub _ _ f49), by show _ + 3 ≤ 2 ^ 24; omega, fun xf G50 t50 q50 => ?_⟩
  obtain ⟨S50, e50⟩ := S49.keep t50
  have f50 : Hd d c G50 xf = some (.tup (ts ++ [V.ref yi, V.ref yj, V.ref yk])) := S50.D.tup q50
  refine ⟨_, rfl, by show 2 ≤ 2 ^ 24; decide, fun L6 n51 => ?_⟩
  obtain ⟨S51, e51, f51⟩ := S50.new n51 (.lst [V.ref xf, V.ref r])
  generalize upd G50 L6 (.lst [V.ref xf, V.ref r]) = G51 at S51 e51 f51
  refine ⟨L5, L6, _, _, rfl, rfl, (hd_sub _ _ ((e46.trans (e47.trans (e48.trans (e49.trans (e50.trans e51))))) _ _ f45)), (hd_sub _ _ f51), by show 17 ≤ 2 ^ 24; decide, fun L7 n52 => ?_⟩
  obtain ⟨S52, e52, f52⟩ := S51.new n52 (.lst ((([od, V.ref x1, V.ref x2, V.ref x3, V.ref x4, V.ref x5, V.ref x6] ++ [V.ref x7, V.ref x8, V.ref x9, V.ref xa]) ++ [V.ref xb, V.ref xc, V.ref xd, V.ref xe]) ++ [V.ref xf, V.ref r]))
  generalize upd G51 L7 (.lst ((([od, V.ref x1, V.ref x2, V.ref x3, V.ref x4, V.ref x5, V.ref x6] ++ [V.ref x7, V.ref x8, V.ref x9, V.ref xa]) ++ [V.ref xb, V.ref xc, V.ref xd, V.ref xe]) ++ [V.ref xf, V.ref r])) = G52 at S52 e52 f52
  have gR := ug.same S52.s
  have gO := god3.same ((e4.trans (e5.trans (e6.trans (e7.trans (e8.trans (e9.trans (e10.trans (e11.trans (e12.trans (e13.trans (e14.trans (e15.trans (e16.trans (e17.trans (e18.trans (e19.trans (e20.trans (e21.trans (e22.trans (e23.trans (e24.trans (e25.trans (e26.trans (e27.trans (e28.trans (e29.trans (e30.trans (e31.trans (e32.trans (e33.trans (e34.trans (e35.trans (e36.trans (e37.trans (e38.trans (e39.trans (e40.trans (e41.trans (e42.trans (e43.trans (e44.trans (e45.trans (e46.trans (e47.trans (e48.trans (e49.trans (e50.trans (e51.trans e52)))))))))))))))))))))))))))))))))))))))))))))))))
  have tR := Gv.tup ((e4.trans (e5.trans (e6.trans (e7.trans (e8.trans (e9.trans (e10.trans (e11.trans (e12.trans (e13.trans (e14.trans (e15.trans (e16.trans (e17.trans (e18.trans (e19.trans (e20.trans (e21.trans (e22.trans (e23.trans (e24.trans (e25.trans (e26.trans (e27.trans (e28.trans (e29.trans (e30.trans (e31.trans (e32.trans (e33.trans (e34.trans (e35.trans (e36.trans (e37.trans (e38.trans (e39.trans (e40.trans (e41.trans (e42.trans (e43.trans (e44.trans (e45.trans (e46.trans (e47.trans (e48.trans (e49.trans (e50.trans (e51.trans e52)))))))))))))))))))))))))))))))))))))))))))))))) _ _ r3) gR
  have gx : Gv K (Hd d c G52) 42 (.str x) := wx.gv
  have gy : Gv K (Hd d c G52) 42 (.str y) := wy.gv
  have gs : ∀ z : Str, (PyData.str z).shown.length ≤ 20 → Gv K (Hd d c G52) 20 (.str z) := fun z h => Gv.str h
  have gL : Ga K (Hd d c G52) 292 ts := (pairs_ga ts fun u hu => (t4 u hu).same ((e33.trans (e34.trans (e35.trans (e36.trans (e37.trans (e38.trans (e39.trans (e40.trans (e41.trans (e42.trans (e43.trans (e44.trans (e45.trans (e46.trans (e47.trans (e48.trans (e49.trans (e50.trans (e51.trans e52))))))))))))))))))))).mono (by omega)
  have tP := (Gv.tup ((e5.trans (e6.trans (e7.trans (e8.trans (e9.trans (e10.trans (e11.trans (e12.trans (e13.trans (e14.trans (e15.trans (e16.trans (e17.trans (e18.trans (e19.trans (e20.trans (e21.trans (e22.trans (e23.trans (e24.trans (e25.trans (e26.trans (e27.trans (e28.trans (e29.trans (e30.trans (e31.trans (e32.trans (e33.trans (e34.trans (e35.trans (e36.trans (e37.trans (e38.trans (e39.trans (e40.trans (e41.trans (e42.trans (e43.trans (e44.trans (e45.trans (e46.trans (e47.trans (e48.trans (e49.trans (e50.trans (e51.trans e52))))))))))))))))))))))))))))))))))))))))))))))) _ _ f4) (Ga.cons gx (Ga.cons gy Ga.nil)))
  have h_x1 : Gv K (Hd d c G52) 400000 (.ref x1) := ((Gv.lst ((e6.trans (e7.trans (e8.trans (e9.trans (e10.trans (e11.trans (e12.trans (e13.trans (e14.trans (e15.trans (e16.trans (e17.trans (e18.trans (e19.trans (e20.trans (e21.trans (e22.trans (e23.trans (e24.trans (e25.trans (e26.trans (e27.trans (e28.trans (e29.trans (e30.trans (e31.trans (e32.trans (e33.trans (e34.trans (e35.trans (e36.trans (e37.trans (e38.trans (e39.trans (e40.trans (e41.trans (e42.trans (e43.trans (e44.trans (e45.trans (e46.trans (e47.trans (e48.trans (e49.trans (e50.trans (e51.trans e52)))))))))))))))))))))))))))))))))))))))))))))) _ _ f5) gR)).mono (by decide)
  have h_x2 : Gv K (Hd d c G52) 400000 (.ref x2) := ((Gv.tup ((e8.trans (e9.trans (e10.trans (e11.trans (e12.trans (e13.trans (e14.trans (e15.trans (e16.trans (e17.trans (e18.trans (e19.trans (e20.trans (e21.trans (e22.trans (e23.trans (e24.trans (e25.trans (e26.trans (e27.trans (e28.trans (e29.trans (e30.trans (e31.trans (e32.trans (e33.trans (e34.trans (e35.trans (e36.trans (e37.trans (e38.trans (e39.trans (e40.trans (e41.trans (e42.trans (e43.trans (e44.trans (e45.trans (e46.trans (e47.trans (e48.trans (e49.trans (e50.trans (e51.trans e52)))))))))))))))))))))))))))))))))))))))))))) _ _ f7) (gR.append (Ga.cons gO Ga.nil)))).mono (by decide)
  have h_x3 : Gv K (Hd d c G52) 400000 (.ref x3) := ((Gv.tup ((e10.trans (e11.trans (e12.trans (e13.trans (e14.trans (e15.trans (e16.trans (e17.trans (e18.trans (e19.trans (e20.trans (e21.trans (e22.trans (e23.trans (e24.trans (e25.trans (e26.trans (e27.trans (e28.trans (e29.trans (e30.trans (e31.trans (e32.trans (e33.trans (e34.trans (e35.trans (e36.trans (e37.trans (e38.trans (e39.trans (e40.trans (e41.trans (e42.trans (e43.trans (e44.trans (e45.trans (e46.trans (e47.trans (e48.trans (e49.trans (e50.trans (e51.trans e52)))))))))))))))))))))))))))))))))))))))))) _ _ f9) (gR.append (Ga.cons tP Ga.nil)))).mono (by decide)
  have h_x4 : Gv K (Hd d c G52) 400000 (.ref x4) := ((Gv.tup ((e11.trans (e12.trans (e13.trans (e14.trans (e15.trans (e16.trans (e17.trans (e18.trans (e19.trans (e20.trans (e21.trans (e22.trans (e23.trans (e24.trans (e25.trans (e26.trans (e27.trans (e28.trans (e29.trans (e30.trans (e31.trans (e32.trans (e33.trans (e34.trans (e35.trans (e36.trans (e37.trans (e38.trans (e39.trans (e40.trans (e41.trans (e42.trans (e43.trans (e44.trans (e45.trans (e46.trans (e47.trans (e48.trans (e49.trans (e50.trans (e51.trans e52))))))))))))))))))))))))))))))))))))))))) _ _ f10) (gR.append gR))).mono (by decide)
  have h_x5 : Gv K (Hd d c G52) 400000 (.ref x5) := ((Gv.tup ((e13.trans (e14.trans (e15.trans (e16.trans (e17.trans (e18.trans (e19.trans (e20.trans (e21.trans (e22.trans (e23.trans (e24.trans (e25.trans (e26.trans (e27.trans (e28.trans (e29.trans (e30.trans (e31.trans (e32.trans (e33.trans (e34.trans (e35.trans (e36.trans (e37.trans (e38.trans (e39.trans (e40.trans (e41.trans (e42.trans (e43.trans (e44.trans (e45.trans (e46.trans (e47.trans (e48.trans (e49.trans (e50.trans (e51.trans e52))))))))))))))))))))))))))))))))))))))) _ _ f12) (gR.append (Ga.cons tP (Ga.cons tP Ga.nil))))).mono (by decide)
  have ti1 := (Gv.lst ((e14.trans (e15.trans (e16.trans (e17.trans (e18.trans (e19.trans (e20.trans (e21.trans (e22.trans (e23.trans (e24.trans (e25.trans (e26.trans (e27.trans (e28.trans (e29.trans (e30.trans (e31.trans (e32.trans (e33.trans (e34.trans (e35.trans (e36.trans (e37.trans (e38.trans (e39.trans (e40.trans (e41.trans (e42.trans (e43.trans (e44.trans (e45.trans (e46.trans (e47.trans (e48.trans (e49.trans (e50.trans (e51.trans e52)))))))))))))))))))))))))))))))))))))) _ _ f13) (Ga.cons gx (Ga.cons gy Ga.nil)))
  have h_x6 : Gv K (Hd d c G52) 400000 (.ref x6) := ((Gv.tup ((e16.trans (e17.trans (e18.trans (e19.trans (e20.trans (e21.trans (e22.trans (e23.trans (e24.trans (e25.trans (e26.trans (e27.trans (e28.trans (e29.trans (e30.trans (e31.trans (e32.trans (e33.trans (e34.trans (e35.trans (e36.trans (e37.trans (e38.trans (e39.trans (e40.trans (e41.trans (e42.trans (e43.trans (e44.trans (e45.trans (e46.trans (e47.trans (e48.trans (e49.trans (e50.trans (e51.trans e52)))))))))))))))))))))))))))))))))))) _ _ f15) (gR.append (Ga.cons ti1 Ga.nil)))).mono (by decide)
  have t5 := (Gv.tup ((e18.trans (e19.trans (e20.trans (e21.trans (e22.trans (e23.trans (e24.trans (e25.trans (e26.trans (e27.trans (e28.trans (e29.trans (e30.trans (e31.trans (e32.trans (e33.trans (e34.trans (e35.trans (e36.trans (e37.trans (e38.trans (e39.trans (e40.trans (e41.trans (e42.trans (e43.trans (e44.trans (e45.trans (e46.trans (e47.trans (e48.trans (e49.trans (e50.trans (e51.trans e52)))))))))))))))))))))))))))))))))) _ _ f17) (Ga.cons gx (Ga.cons gx Ga.nil)))
  have h_x7 : Gv K (Hd d c G52) 400000 (.ref x7) := ((Gv.tup ((e20.trans (e21.trans (e22.trans (e23.trans (e24.trans (e25.trans (e26.trans (e27.trans (e28.trans (e29.trans (e30.trans (e31.trans (e32.trans (e33.trans (e34.trans (e35.trans (e36.trans (e37.trans (e38.trans (e39.trans (e40.trans (e41.trans (e42.trans (e43.trans (e44.trans (e45.trans (e46.trans (e47.trans (e48.trans (e49.trans (e50.trans (e51.trans e52)))))))))))))))))))))))))))))))) _ _ f19) (gR.append (Ga.cons t5 Ga.nil)))).mono (by decide)
  have gP : Ga K (Hd d c G52) 88 [V.str x, V.str y] := Ga.cons gx (Ga.cons gy Ga.nil)
  have tc1 := Gv.tup ((e22.trans (e23.trans (e24.trans (e25.trans (e26.trans (e27.trans (e28.trans (e29.trans (e30.trans (e31.trans (e32.trans (e33.trans (e34.trans (e35.trans (e36.trans (e37.trans (e38.trans (e39.trans (e40.trans (e41.trans (e42.trans (e43.trans (e44.trans (e45.trans (e46.trans (e47.trans (e48.trans (e49.trans (e50.trans (e51.trans e52)))))))))))))))))))))))))))))) _ _ f21) (gP.append (gP.cut none (some 1)))
  have h_x8 : Gv K (Hd d c G52) 400000 (.ref x8) := ((Gv.tup ((e24.trans (e25.trans (e26.trans (e27.trans (e28.trans (e29.trans (e30.trans (e31.trans (e32.trans (e33.trans (e34.trans (e35.trans (e36.trans (e37.trans (e38.trans (e39.trans (e40.trans (e41.trans (e42.trans (e43.trans (e44.trans (e45.trans (e46.trans (e47.trans (e48.trans (e49.trans (e50.trans (e51.trans e52)))))))))))))))))))))))))))) _ _ f23) (gR.append (Ga.cons tc1 Ga.nil)))).mono (by decide)
  have h_x9 : Gv K (Hd d c G52) 400000 (.ref x9) := ((Gv.tup ((e26.trans (e27.trans (e28.trans (e29.trans (e30.trans (e31.trans (e32.trans (e33.trans (e34.trans (e35.trans (e36.trans (e37.trans (e38.trans (e39.trans (e40.trans (e41.trans (e42.trans (e43.trans (e44.trans (e45.trans (e46.trans (e47.trans (e48.trans (e49.trans (e50.trans (e51.trans e52)))))))))))))))))))))))))) _ _ f25) ((Ga.cons tP Ga.nil).append gR))).mono (by decide)
  have t9 := (Gv.tup ((e27.trans (e28.trans (e29.trans (e30.trans (e31.trans (e32.trans (e33.trans (e34.trans (e35.trans (e36.trans (e37.trans (e38.trans (e39.trans (e40.trans (e41.trans (e42.trans (e43.trans (e44.trans (e45.trans (e46.trans (e47.trans (e48.trans (e49.trans (e50.trans (e51.trans e52))))))))))))))))))))))))) _ _ f26) (Ga.cons gx (Ga.cons gO Ga.nil)))
  have h_xa : Gv K (Hd d c G52) 400000 (.ref xa) := ((Gv.tup ((e29.trans (e30.trans (e31.trans (e32.trans (e33.trans (e34.trans (e35.trans (e36.trans (e37.trans (e38.trans (e39.trans (e40.trans (e41.trans (e42.trans (e43.trans (e44.trans (e45.trans (e46.trans (e47.trans (e48.trans (e49.trans (e50.trans (e51.trans e52))))))))))))))))))))))) _ _ f28) (gR.append (Ga.cons t9 Ga.nil)))).mono (by decide)
  have tb := (Gv.tup ((e34.trans (e35.trans (e36.trans (e37.trans (e38.trans (e39.trans (e40.trans (e41.trans (e42.trans (e43.trans (e44.trans (e45.trans (e46.trans (e47.trans (e48.trans (e49.trans (e50.trans (e51.trans e52)))))))))))))))))) _ _ f33) (Ga.cons gO (Ga.cons gy Ga.nil)))
  have h_xb : Gv K (Hd d c G52) 400000 (.ref xb) := ((Gv.tup ((e36.trans (e37.trans (e38.trans (e39.trans (e40.trans (e41.trans (e42.trans (e43.trans (e44.trans (e45.trans (e46.trans (e47.trans (e48.trans (e49.trans (e50.trans (e51.trans e52)))))))))))))))) _ _ f35) (gR.append (Ga.cons tb Ga.nil)))).mono (by decide)
  have td := (Gv.tup ((e37.trans (e38.trans (e39.trans (e40.trans (e41.trans (e42.trans (e43.trans (e44.trans (e45.trans (e46.trans (e47.trans (e48.trans (e49.trans (e50.trans (e51.trans e52))))))))))))))) _ _ f36) (Ga.cons (gs "" (by decide +kernel)) (Ga.cons (gs "" (by decide +kernel)) Ga.nil)))
  have h_xc : Gv K (Hd d c G52) 400000 (.ref xc) := ((Gv.tup ((e39.trans (e40.trans (e41.trans (e42.trans (e43.trans (e44.trans (e45.trans (e46.trans (e47.trans (e48.trans (e49.trans (e50.trans (e51.trans e52))))))))))))) _ _ f38) (gR.append (Ga.cons td Ga.nil)))).mono (by decide)
  have h_xd : Gv K (Hd d c G52) 400000 (.ref xd) := ((Gv.tup ((e40.trans (e41.trans (e42.trans (e43.trans (e44.trans (e45.trans (e46.trans (e47.trans (e48.trans (e49.trans (e50.trans (e51.trans e52)))))))))))) _ _ f39) (gL.append gL))).mono (by decide)
  have tf := (Gv.tup ((e41.trans (e42.trans (e43.trans (e44.trans (e45.trans (e46.trans (e47.trans (e48.trans (e49.trans (e50.trans (e51.trans e52))))))))))) _ _ f40) (Ga.cons (gs "aa" (by decide +kernel)) (Ga.cons (gs "ab" (by decide +kernel)) Ga.nil)))
  have tg := (Gv.tup ((e42.trans (e43.trans (e44.trans (e45.trans (e46.trans (e47.trans (e48.trans (e49.trans (e50.trans (e51.trans e52)))))))))) _ _ f41) (Ga.cons (gs "ba" (by decide +kernel)) (Ga.cons (gs "bb" (by decide +kernel)) Ga.nil)))
  have h_xe : Gv K (Hd d c G52) 400000 (.ref xe) := ((Gv.tup ((e44.trans (e45.trans (e46.trans (e47.trans (e48.trans (e49.trans (e50.trans (e51.trans e52)))))))) _ _ f43) (gL.append (Ga.cons tf (Ga.cons tg Ga.nil))))).mono (by decide)
  have ti := (Gv.tup ((e47.trans (e48.trans (e49.trans (e50.trans (e51.trans e52))))) _ _ f46) (Ga.cons (gs "aa" (by decide +kernel)) (Ga.cons (gs "ab" (by decide +kernel)) Ga.nil)))
  have tj := (Gv.tup ((e48.trans (e49.trans (e50.trans (e51.trans e52)))) _ _ f47) (Ga.cons (gs "ba" (by decide +kernel)) (Ga.cons (gs "bb" (by decide +kernel)) Ga.nil)))
  have tk := (Gv.tup ((e49.trans (e50.trans (e51.trans e52))) _ _ f48) (Ga.cons (gs "b" (by decide +kernel)) (Ga.cons (gs "a" (by decide +kernel)) Ga.nil)))
  have h_xf : Gv K (Hd d c G52) 400000 (.ref xf) := ((Gv.tup ((e51.trans e52) _ _ f50) (gL.append (Ga.cons ti (Ga.cons tj (Ga.cons tk Ga.nil)))))).mono (by decide)
  have al : Gs K (Hd d c G52) 400000 ((([od, V.ref x1, V.ref x2, V.ref x3, V.ref x4, V.ref x5, V.ref x6] ++ [V.ref x7, V.ref x8, V.ref x9, V.ref xa]) ++ [V.ref xb, V.ref xc, V.ref xd, V.ref xe]) ++ [V.ref xf, V.ref r]) := (((((Gs.cons (gO.mono (by decide)) (Gs.cons h_x1 (Gs.cons h_x2 (Gs.cons h_x3 (Gs.cons h_x4 (Gs.cons h_x5 (Gs.cons h_x6 Gs.nil)))))))).append ((Gs.cons h_x7 (Gs.cons h_x8 (Gs.cons h_x9 (Gs.cons h_xa Gs.nil)))))).append ((Gs.cons h_xb (Gs.cons h_xc (Gs.cons h_xd (Gs.cons h_xe Gs.nil)))))).append ((Gs.cons h_xf (Gs.cons (tR.mono (by decide)) Gs.nil))))
  refine ⟨d, c, L7, _, _, rfl, S52.D, by omega, f52, by show 0 < 17; decide, by show 17 ≤ 100000; decide, fun v' G' hv' DG sG => ?_⟩
  exact q v' G' ((al v' hv').same sG) (DG.mono (by omega)) (S52.s.trans sG)
end
end K17
namespace K17
open PySem GL GZ KW KR GU KU KG
open L2 hiding isNon
open KC hiding rLenS call_lenS
open KX (Small inV_strs flat_strs errD walkE pieceD pairD)
theorem walk_lt {l : Nat} : ∀ (ds : List PyData) (i : Nat) (tk : List Str) (j : Nat), KX.walkE l i tk ds = some j → j < i + ds.length
  | [], i, tk, j, h => by unfold KX.walkE at h; cases h
  | d :: ds, i, tk, j, h => by
    unfold KX.walkE at h
    rw [List.length_cons]
    cases e : pairD l d with
    | none =>
      rw [e] at h
      simp only [Option.some.injEq] at h
      omega
    | some ab =>
      obtain ⟨x, y⟩ := ab
      rw [e] at h
      simp only at h
      split at h
      · simp only [Option.some.injEq] at h
        omega
      · have := walk_lt ds (i + 1) _ j h
        omega
theorem errD_fit {l : Nat} {d : PyData} (h : Small d) : Fit 100 1 (errD l d) := by
  unfold errD
  split
  · rename_i ds
    split
    · rename_i i e
      have il := walk_lt ds 0 [] i e
      have dl := h.len
      have ii : ((i : Nat) : Int).natAbs < 10 ^ 41 := Nat.lt_of_lt_of_le (show i < 1000001 by omega) (by decide +kernel)
      exact (Fit.tup (FitAll.cons (fit_int (n := 42) (k := 0) ii (by decide)) (FitAll.cons (fit_str (n := 20) (m := 20) (by decide +kernel) (by decide)) FitAll.nil))).mono (by decide) (by decide)
    · split
      · exact (Fit.tup (FitAll.cons (fit_non (n := 5) (k := 0) (by decide)) (FitAll.cons (fit_str (n := 20) (m := 20) (by decide +kernel) (by decide)) FitAll.nil))).mono (by decide) (by decide)
      · exact fit_non (by decide)
  · exact (Fit.tup (FitAll.cons (fit_non (n := 5) (k := 0) (by decide)) (FitAll.cons (fit_str (n := 20) (m := 20) (by decide +kernel) (by decide)) FitAll.nil))).mono (by decide) (by decide)
theorem shown_le {K : PySem.W.Frag} {H : Hp} {d : PyData} {v : V} {n k : Nat} (h : Dt K H v d) (f : Fit n k d) (hn : n ≤ 1000000) : d.shown.length ≤ sizeLine := by
  have a := shown_wt d v h
  have b := f.w
  show _ ≤ 2 ^ 24
  omega

theorem err_strs {k : PyData} {e : Str} (h : err k = .str e) : e = "machine" ∨ e = "letters" ∨ e = "rows" ∨ e = "ends" := by
  by_cases h3 : ∃ l r e, k = .tuple [l, r, e]
  · obtain ⟨l, r, e', rfl⟩ := h3
    rw [err_three] at h
    cases c1 : inR 1 4 l with
    | false => rw [c1] at h; exact .inr (.inl (V.str.inj h).symm)
    | true =>
      obtain ⟨n, rfl⟩ := inR_int c1
      rw [c1, if_pos rfl] at h
      have h' : (if rowsOk n r then (if endsOk (len0 r) e' then V.non else .str "ends") else .str "rows") = .str e := h
      split at h'
      · split at h'
        · cases h'
        · exact .inr (.inr (.inr (V.str.inj h').symm))
      · exact .inr (.inr (.inl (V.str.inj h').symm))
  · rw [err_no fun l r e z => h3 ⟨l, r, e, z⟩] at h
    exact .inl (V.str.inj h).symm
theorem fit_s {x : Str} (h : (PyData.str x).shown.length ≤ 20) {k : Nat} : Fit 20 k (.str x) := fit_str h (Nat.le_refl _)
theorem fit_two {a b : PyData} {n m k : Nat} (x : Fit n k a) (y : Fit m k b) (h : n + m + 7 ≤ 200) (hk : k ≤ 1) : Fit 200 2 (.tuple [a, b]) := (Fit.tup (FitAll.cons x (FitAll.cons y FitAll.nil))).mono (by omega) (by omega)
theorem serr_fit {d : PyData} (h : Small d) : Fit 200 2 (serr d) := by
  unfold serr
  split
  · rename_i k s r
    have wr : Small r := h.mem (by simp)
    split
    · rename_i e he
      have : (PyData.str e).shown.length ≤ 20 := by
        rcases err_strs he with rfl | rfl | rfl | rfl <;> decide +kernel
      exact fit_two (k := 0) (fit_s (by decide +kernel)) (fit_s this) (by decide) (by decide)
    · split
      · exact fit_two (k := 0) (fit_s (by decide +kernel)) (fit_s (by decide +kernel)) (by decide) (by decide)
      · split
        · split
          · exact fit_non (by decide)
          · exact fit_two (k := 1) (fit_s (by decide +kernel)) (errD_fit wr) (by decide) (by decide)
        · exact fit_two (k := 0) (fit_s (by decide +kernel)) (fit_non (n := 5) (by decide)) (by decide) (by decide)
  · exact fit_two (k := 0) (fit_s (by decide +kernel)) (fit_non (n := 5) (by decide)) (by decide) (by decide)
theorem join {P : V → Hp → Prop} {Good : V → Hp → Prop} {C : Prop} (h : (∀ v G, Good v G → P v G) → C) (r : ∀ v G, Good v G → P v G) : C := h r
abbrev sLaw : Stmt := top 37
def spLaw (K : PySem.W.Frag) : Sp := fun vs H Q _ => ∃ (a : Addr) (ns : List Int), vs = [.ref a] ∧ SqL K H a (ns.map V.int) ∧ ns.length ≤ 63 ∧ ∀ H', Q (.bl true) H'
abbrev NL : List Str := ["_law_script", "_law_deck_here", "_law_turn", "_law_kind_here", "_law_signs_here", "_law_rule_here", "_law_way", "_law_bent", "_law_told", "_law_pairs", "_law_value", "_law_other", "_law_one_here"]
section
variable {P : Program} {w : World} {K : PySem.W.Frag} {mg : Str → Option Value} {base : Heap}
theorem scL : FnScope ["_law_script", "_law_deck_here", "_law_turn", "_law_kind_here", "_law_signs_here", "_law_rule_here", "_law_way", "_law_bent", "_law_told", "_law_pairs", "_law_value", "_law_other", "_law_one_here"] ["_law_script"] (defScope sLaw) := ⟨rfl, rfl, rfl, by decide +kernel, rfl, by decide +kernel, by decide +kernel⟩
theorem ok_law {f fK fW fS fB fO fX fR fE fD : Addr} {fd fdK fdW fdS fdB fdO fdX fdR fdE fdD : FuncData} (F : Fun K "law" "law" sLaw f fd) (T : Txt mg)
    (DK : Dfn P w K mg base "_law_deck" 1 fK fdK ["_law_script"] (spDeck K)) (W : Dfn P w K mg base "_law_draw" 1 fW fdW ["_law_deck_here", "_law_many"] spDraw)
    (SC : Dfn P w K mg base "_law_scheme" 5 fS fdS ["_law_deck_here", "_law_most"] (spScheme K)) (BK : Dfn P w K mg base "_law_bent_kind" 4 fB fdB ["_law_deck_here", "_law_kind_here"] (spBK K))
    (O : Dfn P w K mg base "_law_one" 2 fO fdO ["_law_deck_here", "_law_items"] spOne) (X : Dfn P w K mg base "_law_odd" 3 fX fdX ["_law_deck_here"] (spOdd K)) (BR : Dfn P w K mg base "_law_bent_rule" 4 fR fdR ["_law_deck_here", "_law_letters", "_law_rule_here"] (spBR K))
    (SE : Dfn P w K mg base "scheme_error" 5 fE fdE ["value"] (spSErr K)) (DU : Dfn P w K mg base "_law_due" 4 fD fdD ["_law_value"] (spSErr K)) : Fg P w K mg base CX0 6 f fd ["_law_script"] (spLaw K) := by
  refine ok_g F scL (fun vs H Q E h => ?_) (fun cdv A outer s H vs Q E hg hr h => ?_)
  · obtain ⟨a, ns, rfl, _⟩ := h
    rfl
  obtain ⟨a, ns, rfl, hS, hl, q⟩ := h
  have hr1 : Room 1 _ := hr.mono (by decide)
  have hr2 : Room 2 _ := hr.mono (by decide)
  have hr3 : Room 3 _ := hr.mono (by decide)
  have hr4 : Room 4 _ := hr.mono (by decide)
  refine ⟨_, pss_cons (ps_set (i := 1) scL.nd rfl (Or.inl rfl) (pe_call DK.ok hr1 rfl DK.m DK.kp DK.b .nil pass0 (pa_cons (pv 0) pa_nil)))
    (pss_cons (ps_for PassesOwn.never rfl (pi_range1 rfl T.c.range (pa_cons pe_int pa_nil)) (pg_name (i := 2) scL.nd rfl (Or.inl rfl))
      (pss_cons (ps_asg (pe_call SC.ok hr rfl SC.m SC.kp SC.b .nil pass0 (pa_cons (pv 1) (pa_cons pe_int pa_nil))) (pg_tup (by rfl) (pgs_cons (pg_name (i := 3) scL.nd rfl (Or.inl rfl)) (pgs_cons (pg_name (i := 4) scL.nd rfl (Or.inl rfl)) (pgs_cons (pg_name (i := 5) scL.nd rfl (Or.inl rfl)) pgs_nil)))))
      (pss_cons (ps_set (i := 6) scL.nd rfl (Or.inl rfl) (pe_call W.ok hr1 rfl W.m W.kp W.b .nil pass0 (pa_cons (pv 1) (pa_cons pe_int pa_nil))))
      (pss_cons (ps_set (i := 7) scL.nd rfl (Or.inl rfl) (pe_ifExp (pt_cmpR op_in_seq (pv 6) (pe_lst (pa_cons pe_int (pa_cons pe_int (pa_cons pe_int (pa_cons pe_int pa_nil))))) (by rfl)) (pe_call BK.ok hr4 rfl BK.m BK.kp BK.b .nil pass0 (pa_cons (pv 1) (pa_cons (pv 3) pa_nil))) (pv 3)))
      (pss_cons (ps_set (i := 8) scL.nd rfl (Or.inl rfl) (pv 4))
      (pss_cons (ps_if (pt_cmpR op_in_seq (pv 6) (pe_lst (pa_cons pe_int (pa_cons pe_int pa_nil))) (by rfl)) (pss_one (ps_set (i := 8) scL.nd rfl (Or.inl rfl) (pe_call O.ok hr2 rfl O.m O.kp O.b .nil pass0 (pa_cons (pv 1) (pa_cons (pe_lst (pa_cons (pe_call X.ok hr3 rfl X.m X.kp X.b .nil pass0 (pa_cons (pv 1) pa_nil))
          (pa_cons (pe_op op_add_str (pv 4) pe_str) (pa_cons (pe_slice sl_str (pv 4) (po_some pe_int) po_none) (pa_cons (pe_op op_add_str pe_str (pe_slice sl_str (pv 4) (po_some pe_int) po_none)) pa_nil))))) pa_nil))))) pss_nil)
      (pss_cons (ps_set (i := 9) scL.nd rfl (Or.inl rfl) (pe_ifExp (pt_cmpR op_in_seq (pv 6) (pe_lst (pa_cons pe_int (pa_cons pe_int (pa_cons pe_int (pa_cons pe_int pa_nil))))) (by rfl)) (pe_call BR.ok hr4 rfl BR.m BR.kp BR.b .nil pass0 (pa_cons (pv 1) (pa_cons (pe_ix ix_tup (pv 3) pe_int (fun _ _ => rfl)) (pa_cons (pv 5) pa_nil)))) (pv 5)))
      (pss_cons (ps_set (i := 10) scL.nd rfl (Or.inl rfl) (pe_tup (pa_cons (pv 7) (pa_cons (pv 8) (pa_cons (pv 9) pa_nil)))))
      (pss_cons (ps_set (i := 11) scL.nd rfl (Or.inl rfl) (pe_call O.ok hr2 rfl O.m O.kp O.b .nil pass0 (pa_cons (pv 1) (pa_cons (pe_lst (pa_cons (pe_op op_catD (pv 10) (pe_tup (pa_cons pe_non pa_nil))) (pa_cons (pe_callTy call_list_of (by rfl) T.list (by decide +kernel) (pa_cons (pv 10) pa_nil))
          (pa_cons (pe_call X.ok hr3 rfl X.m X.kp X.b .nil pass0 (pa_cons (pv 1) pa_nil)) (pa_cons (pe_slice sl_tupD (pv 10) po_none (po_some pe_int)) pa_nil))))) pa_nil))))
      (pss_one (ps_for PassesOwn.never rfl (pi_list (pe_lst (pa_cons (pe_tup (pa_cons (pv 3) (pa_cons (pv 4) (pa_cons (pv 5) pa_nil)))) (pa_cons (pv 10) (pa_cons (pv 11) pa_nil))))) (pg_name (i := 12) scL.nd rfl (Or.inl rfl))
        (pss_one (ps_if (pt_cmpR op_ne (pe_callB (call_reprD hg hr.units) (by rfl) T.repr (by decide +kernel) (pa_cons (pe_call SE.ok hr rfl SE.m SE.kp SE.b .nil pass0 (pa_cons (pv 12) pa_nil)) pa_nil))
          (pe_callB (call_reprD hg hr.units) (by rfl) T.repr (by decide +kernel) (pa_cons (pe_call DU.ok hr4 rfl DU.m DU.kp DU.b .nil pass0 (pa_cons (pv 12) pa_nil)) pa_nil)) (nomark _)) (pss_one (ps_ret pe_bl)) pss_nil)))))))))))))
    (pss_one (ps_ret pe_bl))), ?_⟩
  refine ⟨_, rfl, a, ns, rfl, hS, hl, fun d c G0 s0 nd nc D0 => ?_⟩
  refine ⟨16, rfl, by decide, by decide, for_range (lo := 0) (n := 16) (fun i σ G => ∃ (k2 k3 k4 k5 k6 k7 k8 k9 k10 k11 k12 : Option V), σ = [some (.ref a), some (.ref d), k2, k3, k4, k5, k6, k7, k8, k9, k10, k11, k12] ∧ Deck G d c (i * 300))
    ⟨_, _, _, _, _, _, _, _, _, _, _, rfl, D0⟩ ?_ ?_⟩
  · rintro i σ G hi ⟨k2, k3, k4, k5, k6, k7, k8, k9, k10, k11, k12, rfl, DG⟩
    refine ⟨_, rfl, d, c, _, rfl, DG, by omega, fun p kA ra ea r l us rus bs x G1 hp KA wx hr' rl rg D1 s1 => ?_⟩
    refine ⟨p, _, rfl, .inl (.inl (hd_sub _ _ hp)), rfl, _, _, rfl, _, _, rfl, _, _, rfl, rfl, ?_⟩
    refine ⟨_, rfl, d, c, 8, _, rfl, D1, by omega, by decide, by decide, fun way G2 w0 w1 D2 s2 => ?_⟩
    have KA2 := KA.same s2
    have r2 := s2 _ _ hr'
    have rg2 := rg.same s2
    have S2 : St G2 d c (i * 300 + 201) G2 := ⟨D2, Same.refl _⟩
    have n1 := KA2.n1
    have n4 := KA2.n4
    have l1 := KA2.l1
    have l4 := KA2.l4
    have gK : ∀ G, Same (Hd d c G2) (Hd d c G) → Gv K (Hd d c G) 400000 (.ref kA) := fun G s => by
      have KF := KA2.same s
      have gR : Ga K (Hd d c G) 724 us := (rows_ga us KF.row).mono (Nat.le_trans (Nat.mul_le_mul n4 (by omega : 44 * l + 5 ≤ 181)) (by decide))
      have gE : Ga K (Hd d c G) 28 (bs.map V.bl) := (Ga.bools bs).mono (by have := KF.eb; omega)
      have gl : Gv K (Hd d c G) 42 (V.int l) := Gv.int _ (by omega)
      exact (Gv.tup KF.at_ (Ga.cons gl (Ga.cons (Gv.tup KF.rows gR) (Ga.cons (Gv.tup KF.ends gE) Ga.nil)))).mono (by decide)
    have gS : ∀ G, Gv K (Hd d c G) 300 (.str x) := fun G => (wx.mono l4).gv.mono (by decide)
    have gRl : ∀ G, Same (Hd d c G2) (Hd d c G) → Gv K (Hd d c G) 400000 (.ref r) := fun G s => (Gv.tup (s _ _ r2) (rg2.same s)).mono (by decide)
    -- a kind, bent or not
    refine' join (Good := fun v G => Gv K (Hd d c G) 400000 v ∧ St G2 d c (i * 300 + 205) G) (fun rest => ?_) ?_; rotate_left
    · refine ⟨_, rfl, by show 4 ≤ 2 ^ 24; decide, fun lA nA => ?_⟩
      obtain ⟨S3, e3, f3⟩ := S2.new nA (.lst [V.int 0, V.int 1, V.int 2, V.int 7])
      refine ⟨lA, _, rfl, .inl (.inl (.inl upd_same)), rfl, rfl, _, rfl, ite2 (fun _ => ?_) (fun _ => ?_)⟩
      · exact ⟨_, rfl, _, rfl, d, c, kA, ra, ea, _, l, us, bs, rfl, S3.D, by omega, KA2.same e3, fun v G gv DG' sG => rest v G ⟨gv, ⟨DG'.mono (by omega), S3.s.trans sG⟩⟩⟩
      · exact ⟨_, rfl, rest _ _ ⟨gK _ S3.s, ⟨S3.D.mono (by omega), S3.s⟩⟩⟩
    intro bent G3 ⟨gB, S3⟩
    -- signs, as told
    refine' join (Good := fun v G => Gv K (Hd d c G) 300 v ∧ St G3 d c (i * 300 + 207) G) (fun rest => ?_) ?_; rotate_left
    · have T3 : St G3 d c (i * 300 + 205) G3 := ⟨S3.D, Same.refl _⟩
      refine ⟨_, rfl, _, rfl, by show 2 ≤ 2 ^ 24; decide, fun lA nA => ?_⟩
      obtain ⟨S4, e4, f4⟩ := T3.new nA (.lst [V.int 3, V.int 6])
      refine ⟨lA, _, rfl, .inl (.inl (.inl upd_same)), rfl, rfl, _, rfl, ite2 (fun _ => ?_) (fun _ => ?_)⟩
      · have xl : x.length ≤ 4 := Nat.le_trans wx.1 l4
        refine ⟨_, rfl, _, rfl, d, c, _, rfl, S4.D, by omega, fun od G5 god D5 s5 => ?_⟩
        have wc := wx.cut (some 1) none
        have cl : (cutS x (some 1) none).length ≤ 4 := Nat.le_trans wc.1 l4
        refine ⟨_, rfl, _, _, rfl, rfl, by show _ + 1 ≤ 2 ^ 24; omega, _, rfl, _, rfl, _, rfl, by show _ ≤ 2 ^ 24; omega, _, rfl, _, rfl, _, rfl, by show _ ≤ 2 ^ 24; omega, _, _, rfl, rfl, by show 1 + _ ≤ 2 ^ 24; omega, by show 4 ≤ 2 ^ 24; decide, fun lb nb => ?_⟩
        have S5 : St G3 d c (i * 300 + 206) G5 := ⟨D5, S4.s.trans s5⟩
        obtain ⟨S6, e6, f6⟩ := S5.new nb (.lst [od, V.str (x ++ "+"), V.str (cutS x (some 1) none), V.str (" " ++ cutS x (some 1) none)])
        refine ⟨d, c, lb, _, _, rfl, S6.D, by omega, f6, by show 0 < 4; decide, by show 4 ≤ 100000; decide, fun v G7 hv D7 s7 => rest v G7 ⟨?_, ⟨D7, S6.s.trans s7⟩⟩⟩
        have wp : Wd 1 ("+" : Str) := ⟨by decide, by decide⟩
        have ws : Wd 1 (" " : Str) := ⟨by decide, by decide⟩
        refine ((Gs.cons (god.same e6) (Gs.cons ((((wx.mono l4).app wp).gv).mono (by decide)) (Gs.cons ((wc.mono l4).gv.mono (by decide)) (Gs.cons (((ws.app (wc.mono l4)).gv).mono (by decide)) Gs.nil))) : Gs K _ 300 _) v hv).same s7
      · exact rest (.str x) _ ⟨gS _, ⟨S4.D.mono (by omega), S4.s⟩⟩
    intro told G4 ⟨gT, S4⟩
    have b4 := S3.s.trans S4.s
    -- a rule, bent or not
    refine' join (Good := fun v G => Gv K (Hd d c G) 400000 v ∧ St G4 d c (i * 300 + 227) G) (fun rest => ?_) ?_; rotate_left
    · have T4 : St G4 d c (i * 300 + 207) G4 := ⟨S4.D, Same.refl _⟩
      refine ⟨_, rfl, by show 4 ≤ 2 ^ 24; decide, fun lA nA => ?_⟩
      obtain ⟨S5, e5, f5⟩ := T4.new nA (.lst [V.int 4, V.int 5, V.int 6, V.int 7])
      have b5 := b4.trans S5.s
      refine ⟨lA, _, rfl, .inl (.inl (.inl upd_same)), rfl, rfl, _, rfl, ite2 (fun _ => ?_) (fun _ => ?_)⟩
      · exact ⟨_, rfl, _, rfl, kA, _, 0, _, rfl, rfl, .inl (.inl (hd_sub _ _ (b5 _ _ KA2.at_))), rfl, _, rfl, d, c, r, _, l, rus, rfl, S5.D, by omega, l1, l4, b5 _ _ r2, rl, rg2.same b5, fun v G gv DG' sG => rest v G ⟨gv, ⟨DG'.mono (by omega), S5.s.trans sG⟩⟩⟩
      · exact ⟨_, rfl, rest _ _ ⟨gRl _ b5, ⟨S5.D.mono (by omega), S5.s⟩⟩⟩
    intro prs G5 ⟨gP, S5⟩
    have b5 := b4.trans S5.s
    have gB5 := gB.same (S4.s.trans S5.s)
    have gT5 := gT.same S5.s
    have T5 : St G5 d c (i * 300 + 227) G5 := ⟨S5.D, Same.refl _⟩
    -- the value
    refine ⟨_, rfl, _, rfl, _, rfl, by show 3 ≤ 2 ^ 24; decide, fun pv np => ?_⟩
    obtain ⟨S6, e6, f6⟩ := T5.new np (.tup [bent, told, prs])
    have gV3 : Ga K (Hd d c (upd G5 pv (.tup [bent, told, prs]))) 800306 [bent, told, prs] := Ga.cons (gB5.same e6) (Ga.cons (gT5.same e6) (Ga.cons (gP.same e6) Ga.nil))
    generalize upd G5 pv (.tup [bent, told, prs]) = G6 at S6 e6 f6 gV3
    have gV : Gv K (Hd d c G6) 900000 (.ref pv) := (Gv.tup f6 gV3).mono (by decide)
    refine ⟨_, rfl, _, rfl, by show 1 ≤ 2 ^ 24; decide, fun t1 n1 => ?_⟩
    obtain ⟨S7, e7, f7⟩ := S6.new n1 (.tup [V.non])
    generalize upd G6 t1 (.tup [V.non]) = G7 at S7 e7 f7
    refine ⟨pv, t1, _, _, rfl, rfl, hd_sub _ _ (e7 _ _ f6), hd_sub _ _ f7, by show 4 ≤ 2 ^ 24; decide, fun t2 G8 t8 q8 => ?_⟩
    obtain ⟨S8, e8⟩ := S7.keep t8
    have f8 := S8.D.tup q8
    refine ⟨_, rfl, pv, _, rfl, .inr (.inl (.inl (hd_sub _ _ (e8 _ _ (e7 _ _ f6))))), fun t3 n3 => ?_⟩
    obtain ⟨S9, e9, f9⟩ := S8.new n3 (.lst [bent, told, prs])
    generalize upd G8 t3 (.lst [bent, told, prs]) = G9 at S9 e9 f9
    refine ⟨_, rfl, d, c, _, rfl, S9.D, by omega, fun od G10 god D10 s10 => ?_⟩
    have S10 : St G5 d c (i * 300 + 228) G10 := ⟨D10, S9.s.trans s10⟩
    have e610 := e7.trans (e8.trans (e9.trans s10))
    refine ⟨_, rfl, _, rfl, pv, _, rfl, hd_sub _ _ (e610 _ _ f6), fun t4 G11 t11 q11 => ?_⟩
    obtain ⟨S11, e11⟩ := S10.keep t11
    have f11 := S11.D.tup q11
    refine ⟨by show 4 ≤ 2 ^ 24; decide, fun lb nb => ?_⟩
    obtain ⟨S12, e12, f12⟩ := S11.new nb (.lst [V.ref t2, V.ref t3, od, V.ref t4])
    generalize upd G11 lb (.lst [V.ref t2, V.ref t3, od, V.ref t4]) = G12 at S12 e12 f12
    have e612 := e610.trans (e11.trans e12)
    have gV12 := gV3.same e612
    have al : Gs K (Hd d c G12) 900000 [V.ref t2, V.ref t3, od, V.ref t4] := by
      have h1 : Gv K (Hd d c G12) 900000 (.ref t2) := (Gv.tup ((e9.trans (s10.trans (e11.trans e12))) _ _ f8) (gV12.append (Ga.cons Gv.non Ga.nil))).mono (by decide)
      have h2 : Gv K (Hd d c G12) 900000 (.ref t3) := (Gv.lst ((s10.trans (e11.trans e12)) _ _ f9) gV12).mono (by decide)
      have h3 : Gv K (Hd d c G12) 900000 (.ref t4) := (Gv.tup (e12 _ _ f11) (gV12.cut none (some 2))).mono (by decide)
      exact Gs.cons h1 (Gs.cons h2 (Gs.cons ((god.same (e11.trans e12)).mono (by decide)) (Gs.cons h3 Gs.nil)))
    refine ⟨d, c, lb, _, _, rfl, S12.D, by omega, f12, by show 0 < 4; decide, by show 4 ≤ 100000; decide, fun oth G13 hoth D13 s13 => ?_⟩
    have gO := (al oth hoth).same s13
    have S13 : St G5 d c (i * 300 + 229) G13 := ⟨D13, S12.s.trans s13⟩
    have gV13 := (gV.same e612).same s13
    have b13 := b5.trans S13.s
    -- the three values
    refine ⟨_, rfl, _, rfl, _, rfl, by show 3 ≤ 2 ^ 24; decide, fun t5 n5 => ?_⟩
    obtain ⟨S14, e14, f14⟩ := S13.new n5 (.tup [V.ref kA, V.str x, V.ref r])
    generalize upd G13 t5 (.tup [V.ref kA, V.str x, V.ref r]) = G14 at S14 e14 f14
    have b14 := b13.trans e14
    have g5 : Gv K (Hd d c G14) 900000 (.ref t5) := (Gv.tup f14 (Ga.cons (gK _ b14) (Ga.cons (gS _) (Ga.cons (gRl _ b14) Ga.nil)))).mono (by decide)
    refine ⟨_, rfl, _, rfl, by show 3 ≤ 2 ^ 24; decide, fun lc nc' => ?_⟩
    obtain ⟨S15, e15, f15⟩ := S14.new nc' (.lst [V.ref t5, V.ref pv, oth])
    generalize upd G14 lc (.lst [V.ref t5, V.ref pv, oth]) = G15 at S15 e15 f15
    have al3 : Gs K (Hd d c G15) 900000 [V.ref t5, V.ref pv, oth] := Gs.cons (g5.same e15) (Gs.cons ((gV13.same e14).same e15) (Gs.cons ((gO.same e14).same e15) Gs.nil))
    refine ⟨lc, rfl, ⟨_, .inl (.inl (hd_sub _ _ f15))⟩, for_list (K := K) (a := lc) (xs := [V.ref t5, V.ref pv, oth]) (fun j σ G' => ∃ k12' : Option V, σ = [some (.ref a), some (.ref d), some (.int (0 + i)), some (.ref kA), some (.str x), some (.ref r), some (.int way), some bent, some told, some prs, some (.ref pv), some oth, k12'] ∧ Same G15 G')
      ⟨_, rfl, Same.refl _⟩ (fun j σ G' _ h => let ⟨_, _, s⟩ := h; .inl (.inl (s _ _ (hd_sub _ _ f15)))) ?_ ?_⟩
    · rintro j v σ G' hv ⟨k12', rfl, sG⟩
      obtain ⟨y, y1, y2⟩ := al3 v (List.mem_of_getElem? hv)
      have hy : Du K G' v y := (y1.same hd_sub).same sG
      have sm : Small y := Gv.small y2 (by decide)
      have fe := serr_fit sm
      refine ⟨_, rfl, v, y, rfl, hy, sm, fun v1 H1 s1 x1 => ?_⟩
      refine ⟨_, _, rfl, x1, fe.s, Nat.le_trans fe.k (by decide), shown_le (K := K) x1 fe (by decide), _, rfl, v, y, rfl, hy.same s1, sm, fun v2 H2 s2 x2 => ?_⟩
      refine ⟨_, _, rfl, x2, fe.s, Nat.le_trans fe.k (by decide), shown_le (K := K) x2 fe (by decide), rfl, _, rfl, ?_⟩
      refine ite2 (fun c => ?_) (fun _ => ?_)
      · simp at c
      · exact ⟨_, rfl, sG.trans (s1.trans s2)⟩
    · rintro σ G' ⟨k12', rfl, sG⟩
      exact ⟨_, _, _, _, _, _, _, _, _, _, _, rfl, (S15.D.same sG).mono (by omega)⟩
  · rintro σ G ⟨k2, k3, k4, k5, k6, k7, k8, k9, k10, k11, k12, rfl, DG⟩
    exact q _
end
end K17
namespace K17
open PySem GL GZ KW KR GU KU KG
open L2 hiding isNon
open KC hiding rLenS call_lenS
theorem all_mk {l : PySem.W.OpenLaw} {w : World} {K : PySem.W.Frag} {h : Heap} {mg : Str → Option Value} {fa : Addr} (X : K.In h) (G : h.Ns mainGlobals mg) (hfa : mg "law" = some (.ref fa))
    {f7 f8 f9 f10 f11 f13 f14 f15 f17 f18 f20 f21 f22 f23 f24 f25 f26 f27 f28 f29 f30 f31 f32 f33 f34 f35 f36 f37 : Addr} {d7 d8 d9 d10 d11 d13 d14 d15 d17 d18 d20 d21 d22 d23 d24 d25 d26 d27 d28 d29 d30 d31 d32 d33 d34 d35 d36 d37 : FuncData} {t0 t1 t2 t3 t4 t5 : Tok}
    (F7 : DF K "is_number" sNumber f7 d7) (F8 : DF K "is_row" sRow f8 d8) (F9 : DF K "are_rows" sRows f9 d9) (F10 : DF K "are_ends" sEnds f10 d10) (F11 : DF K "machine_error" sMErr f11 d11) (F13 : DF K "is_piece" sPiece f13 d13) (F14 : DF K "is_pair" sPair f14 d14) (F15 : DF K "rule_error" sRErr f15 d15) (F17 : DF K "are_signs" sSigns f17 d17) (F18 : DF K "scheme_error" sSErr f18 d18) (F20 : DF K "_law_deck" sDeck f20 d20) (F21 : DF K "_law_draw" sDraw f21 d21) (F22 : DF K "_law_one" sOne f22 d22) (F23 : DF K "_law_kind" sKind f23 d23) (F24 : DF K "_law_signs" sSgn f24 d24) (F25 : DF K "_law_piece" sPc f25 d25) (F26 : DF K "_law_rule" sRule f26 d26) (F27 : DF K "_law_scheme" sScheme f27 d27) (F28 : DF K "_law_is_pair" sLPair f28 d28) (F29 : DF K "_law_rule_error" sLRErr f29 d29) (F30 : DF K "_law_is_number" sLNum f30 d30) (F31 : DF K "_law_is_row" sLRow f31 d31) (F32 : DF K "_law_machine_error" sLMErr f32 d32) (F33 : DF K "_law_due" sDue f33 d33) (F34 : DF K "_law_odd" sOdd f34 d34) (F35 : DF K "_law_bent_kind" sBK f35 d35) (F36 : DF K "_law_bent_rule" sBR f36 d36) (F37 : DF K "law" sLaw f37 d37)
    (z0 : PySem.W.nsIn K mainGlobals "int" = some none) (z1 : PySem.W.nsIn K mainGlobals "tuple" = some none) (z2 : PySem.W.nsIn K mainGlobals "len" = some none) (z3 : PySem.W.nsIn K mainGlobals "abs" = some none) (z4 : PySem.W.nsIn K mainGlobals "range" = some none) (z5 : PySem.W.nsIn K mainGlobals "isinstance" = some none) (z6 : PySem.W.nsIn K mainGlobals "str" = some none) (z7 : PySem.W.nsIn K mainGlobals "bool" = some none) (z8 : PySem.W.nsIn K mainGlobals "all" = some none) (z9 : PySem.W.nsIn K mainGlobals "enumerate" = some none) (z10 : PySem.W.nsIn K mainGlobals "list" = some none) (z11 : PySem.W.nsIn K mainGlobals "repr" = some none)
    (m0 : PySem.W.nsIn K mainGlobals "MAX_LETTERS" = some (some (.int 4 t0))) (m1 : PySem.W.nsIn K mainGlobals "MAX_STATES" = some (some (.int 8 t1))) (m2 : PySem.W.nsIn K mainGlobals "MAX_ROWS" = some (some (.int 400 t2))) (m3 : PySem.W.nsIn K mainGlobals "MAX_WINDOW" = some (some (.int 3 t3))) (m4 : PySem.W.nsIn K mainGlobals "MAX_PAIRS" = some (some (.int 6 t4))) (m5 : PySem.W.nsIn K mainGlobals "LETTERS" = some (some (.str "abcd" t5))) :
    ∃ fd : FuncData, (∀ (s : Shared) (v : Value), BindsTo s fd ⟨[v], []⟩ [("_law_script", v)]) ∧ ∀ base : Heap, K.In base → base.Ns mainGlobals mg → Fg l.prog w K mg base CX0 6 fa fd ["_law_script"] (spLaw K) := by
  have e := hfa.symm.trans (PySem.W.mg_of X G F37.ns)
  cases e
  have C : TxC mg := ⟨PySem.W.mg_none_of X G z0, PySem.W.mg_none_of X G z1, PySem.W.mg_none_of X G z2, PySem.W.mg_none_of X G z3, PySem.W.mg_none_of X G z4⟩
  have T : Txt mg := ⟨C, PySem.W.mg_none_of X G z5, PySem.W.mg_none_of X G z6, PySem.W.mg_none_of X G z7, PySem.W.mg_none_of X G z8, PySem.W.mg_none_of X G z9, PySem.W.mg_none_of X G z10, PySem.W.mg_none_of X G z11, ⟨_, PySem.W.mg_of X G m0⟩, ⟨_, PySem.W.mg_of X G m1⟩, ⟨_, PySem.W.mg_of X G m2⟩, ⟨_, PySem.W.mg_of X G m3⟩, ⟨_, PySem.W.mg_of X G m4⟩, ⟨_, PySem.W.mg_of X G m5⟩⟩
  refine ⟨d37, fun s v => ?_, fun base _ _ => ?_⟩
  · obtain ⟨oc, od, kV, doc, pm, an, cdv, ct, osl, rfl, _, _⟩ := F37.fn.ex
    exact .of_eq rfl
  have B7 : L2.Binds K d7 ["value", "low", "high"] [] := F7.fn.binds fun _ _ _ _ _ _ us hl => match us, hl with | [_, _, _], _ => rfl
  have D7 : Dfn l.prog w K mg base "is_number" 1 f7 d7 ["value", "low", "high"] (spNumber K) := ⟨ok_number F7.fn T, B7, PySem.W.mg_of X G F7.ns, F7.fn.kp⟩
  have B8 : L2.Binds K d8 ["value", "letters", "states"] [] := F8.fn.binds fun _ _ _ _ _ _ us hl => match us, hl with | [_, _, _], _ => rfl
  have D8 : Dfn l.prog w K mg base "is_row" 2 f8 d8 ["value", "letters", "states"] (spRow K) := ⟨ok_row F8.fn T D7, B8, PySem.W.mg_of X G F8.ns, F8.fn.kp⟩
  have B9 : L2.Binds K d9 ["value", "letters"] [] := F9.fn.binds fun _ _ _ _ _ _ us hl => match us, hl with | [_, _], _ => rfl
  have D9 : Dfn l.prog w K mg base "are_rows" 3 f9 d9 ["value", "letters"] (spRows K) := ⟨ok_rows F9.fn T D8, B9, PySem.W.mg_of X G F9.ns, F9.fn.kp⟩
  have B10 : L2.Binds K d10 ["value", "states"] [] := F10.fn.binds fun _ _ _ _ _ _ us hl => match us, hl with | [_, _], _ => rfl
  have D10 : Dfn l.prog w K mg base "are_ends" 1 f10 d10 ["value", "states"] (spEnds K) := ⟨ok_ends F10.fn T, B10, PySem.W.mg_of X G F10.ns, F10.fn.kp⟩
  have B11 : L2.Binds K d11 ["value"] [] := F11.fn.binds fun _ _ _ _ _ _ us hl => match us, hl with | [_], _ => rfl
  have D11 : Dfn l.prog w K mg base "machine_error" 4 f11 d11 ["value"] (spErr K) := ⟨ok_merr F11.fn T D7 D9 D10, B11, PySem.W.mg_of X G F11.ns, F11.fn.kp⟩
  have B13 : L2.Binds K d13 ["letters", "value"] [] := F13.fn.binds fun _ _ _ _ _ _ us hl => match us, hl with | [_, _], _ => rfl
  have D13 : Dfn l.prog w K mg base "is_piece" 1 f13 d13 ["letters", "value"] (spPiece K) := ⟨ok_piece F13.fn T, B13, PySem.W.mg_of X G F13.ns, F13.fn.kp⟩
  have B14 : L2.Binds K d14 ["letters", "value"] [] := F14.fn.binds fun _ _ _ _ _ _ us hl => match us, hl with | [_, _], _ => rfl
  have D14 : Dfn l.prog w K mg base "is_pair" 2 f14 d14 ["letters", "value"] (spPair K) := ⟨ok_pair F14.fn T D13, B14, PySem.W.mg_of X G F14.ns, F14.fn.kp⟩
  have B15 : L2.Binds K d15 ["letters", "value"] [] := F15.fn.binds fun _ _ _ _ _ _ us hl => match us, hl with | [_, _], _ => rfl
  have D15 : Dfn l.prog w K mg base "rule_error" 3 f15 d15 ["letters", "value"] (spRErr K) := ⟨ok_rerr F15.fn T D14, B15, PySem.W.mg_of X G F15.ns, F15.fn.kp⟩
  have B17 : L2.Binds K d17 ["value", "letters"] [] := F17.fn.binds fun _ _ _ _ _ _ us hl => match us, hl with | [_, _], _ => rfl
  have D17 : Dfn l.prog w K mg base "are_signs" 1 f17 d17 ["value", "letters"] (spASigns K) := ⟨ok_asigns F17.fn T, B17, PySem.W.mg_of X G F17.ns, F17.fn.kp⟩
  have B18 : L2.Binds K d18 ["value"] [] := F18.fn.binds fun _ _ _ _ _ _ us hl => match us, hl with | [_], _ => rfl
  have D18 : Dfn l.prog w K mg base "scheme_error" 5 f18 d18 ["value"] (spSErr K) := ⟨ok_serr F18.fn T D11 D17 D15, B18, PySem.W.mg_of X G F18.ns, F18.fn.kp⟩
  have B20 : L2.Binds K d20 ["_law_script"] [] := F20.fn.binds fun _ _ _ _ _ _ us hl => match us, hl with | [_], _ => rfl
  have D20 : Dfn l.prog w K mg base "_law_deck" 1 f20 d20 ["_law_script"] (spDeck K) := ⟨ok_deck F20.fn C, B20, PySem.W.mg_of X G F20.ns, F20.fn.kp⟩
  have B21 : L2.Binds K d21 ["_law_deck_here", "_law_many"] [] := F21.fn.binds fun _ _ _ _ _ _ us hl => match us, hl with | [_, _], _ => rfl
  have D21 : Dfn l.prog w K mg base "_law_draw" 1 f21 d21 ["_law_deck_here", "_law_many"] spDraw := ⟨ok_draw F21.fn C, B21, PySem.W.mg_of X G F21.ns, F21.fn.kp⟩
  have B22 : L2.Binds K d22 ["_law_deck_here", "_law_items"] [] := F22.fn.binds fun _ _ _ _ _ _ us hl => match us, hl with | [_, _], _ => rfl
  have D22 : Dfn l.prog w K mg base "_law_one" 2 f22 d22 ["_law_deck_here", "_law_items"] spOne := ⟨ok_one F22.fn C D21, B22, PySem.W.mg_of X G F22.ns, F22.fn.kp⟩
  have D22s : Dfn l.prog w K mg base "_law_one" 2 f22 d22 ["_law_deck_here", "_law_items"] spOneT := ⟨ok_oneT F22.fn T D21, B22, PySem.W.mg_of X G F22.ns, F22.fn.kp⟩
  have B23 : L2.Binds K d23 ["_law_deck_here", "_law_letters", "_law_most"] [] := F23.fn.binds fun _ _ _ _ _ _ us hl => match us, hl with | [_, _, _], _ => rfl
  have D23 : Dfn l.prog w K mg base "_law_kind" 2 f23 d23 ["_law_deck_here", "_law_letters", "_law_most"] (spKind K) := ⟨ok_kind F23.fn T D21, B23, PySem.W.mg_of X G F23.ns, F23.fn.kp⟩
  have B24 : L2.Binds K d24 ["_law_deck_here", "_law_letters"] [] := F24.fn.binds fun _ _ _ _ _ _ us hl => match us, hl with | [_, _], _ => rfl
  have D24 : Dfn l.prog w K mg base "_law_signs" 3 f24 d24 ["_law_deck_here", "_law_letters"] spSgn := ⟨ok_signs F24.fn T D22s, B24, PySem.W.mg_of X G F24.ns, F24.fn.kp⟩
  have B25 : L2.Binds K d25 ["_law_deck_here", "_law_letters", "_law_size"] [] := F25.fn.binds fun _ _ _ _ _ _ us hl => match us, hl with | [_, _, _], _ => rfl
  have D25 : Dfn l.prog w K mg base "_law_piece" 3 f25 d25 ["_law_deck_here", "_law_letters", "_law_size"] spPc := ⟨ok_pc F25.fn T D22s, B25, PySem.W.mg_of X G F25.ns, F25.fn.kp⟩
  have B26 : L2.Binds K d26 ["_law_deck_here", "_law_letters", "_law_most"] [] := F26.fn.binds fun _ _ _ _ _ _ us hl => match us, hl with | [_, _, _], _ => rfl
  have D26 : Dfn l.prog w K mg base "_law_rule" 4 f26 d26 ["_law_deck_here", "_law_letters", "_law_most"] (spRl K) := ⟨ok_rule F26.fn T D21 D22 D25, B26, PySem.W.mg_of X G F26.ns, F26.fn.kp⟩
  have B27 : L2.Binds K d27 ["_law_deck_here", "_law_most"] [] := F27.fn.binds fun _ _ _ _ _ _ us hl => match us, hl with | [_, _], _ => rfl
  have D27 : Dfn l.prog w K mg base "_law_scheme" 5 f27 d27 ["_law_deck_here", "_law_most"] (spScheme K) := ⟨ok_scheme F27.fn D21 D23 D24 D26, B27, PySem.W.mg_of X G F27.ns, F27.fn.kp⟩
  have B28 : L2.Binds K d28 ["_law_letters", "_law_value", "_law_taken"] [] := F28.fn.binds fun _ _ _ _ _ _ us hl => match us, hl with | [_, _, _], _ => rfl
  have D28 : Dfn l.prog w K mg base "_law_is_pair" 1 f28 d28 ["_law_letters", "_law_value", "_law_taken"] (spLPair K) := ⟨ok_lpair F28.fn T, B28, PySem.W.mg_of X G F28.ns, F28.fn.kp⟩
  have B29 : L2.Binds K d29 ["_law_letters", "_law_value"] [] := F29.fn.binds fun _ _ _ _ _ _ us hl => match us, hl with | [_, _], _ => rfl
  have D29 : Dfn l.prog w K mg base "_law_rule_error" 2 f29 d29 ["_law_letters", "_law_value"] (spRErr K) := ⟨ok_lrerr F29.fn T D28, B29, PySem.W.mg_of X G F29.ns, F29.fn.kp⟩
  have B30 : L2.Binds K d30 ["_law_value", "_law_least", "_law_most"] [] := F30.fn.binds fun _ _ _ _ _ _ us hl => match us, hl with | [_, _, _], _ => rfl
  have D30 : Dfn l.prog w K mg base "_law_is_number" 1 f30 d30 ["_law_value", "_law_least", "_law_most"] (spNumber K) := ⟨ok_lnum F30.fn T, B30, PySem.W.mg_of X G F30.ns, F30.fn.kp⟩
  have B31 : L2.Binds K d31 ["_law_value", "_law_letters", "_law_many"] [] := F31.fn.binds fun _ _ _ _ _ _ us hl => match us, hl with | [_, _, _], _ => rfl
  have D31 : Dfn l.prog w K mg base "_law_is_row" 2 f31 d31 ["_law_value", "_law_letters", "_law_many"] (spRow K) := ⟨ok_lrow F31.fn T D30, B31, PySem.W.mg_of X G F31.ns, F31.fn.kp⟩
  have B32 : L2.Binds K d32 ["_law_value"] [] := F32.fn.binds fun _ _ _ _ _ _ us hl => match us, hl with | [_], _ => rfl
  have D32 : Dfn l.prog w K mg base "_law_machine_error" 3 f32 d32 ["_law_value"] (spErr K) := ⟨ok_lmerr F32.fn T D30 D31, B32, PySem.W.mg_of X G F32.ns, F32.fn.kp⟩
  have B33 : L2.Binds K d33 ["_law_value"] [] := F33.fn.binds fun _ _ _ _ _ _ us hl => match us, hl with | [_], _ => rfl
  have D33 : Dfn l.prog w K mg base "_law_due" 4 f33 d33 ["_law_value"] (spSErr K) := ⟨ok_due F33.fn T D32 D29, B33, PySem.W.mg_of X G F33.ns, F33.fn.kp⟩
  have B34 : L2.Binds K d34 ["_law_deck_here"] [] := F34.fn.binds fun _ _ _ _ _ _ us hl => match us, hl with | [_], _ => rfl
  have D34 : Dfn l.prog w K mg base "_law_odd" 3 f34 d34 ["_law_deck_here"] (spOdd K) := ⟨ok_odd F34.fn D22, B34, PySem.W.mg_of X G F34.ns, F34.fn.kp⟩
  have B35 : L2.Binds K d35 ["_law_deck_here", "_law_kind_here"] [] := F35.fn.binds fun _ _ _ _ _ _ us hl => match us, hl with | [_, _], _ => rfl
  have D35 : Dfn l.prog w K mg base "_law_bent_kind" 4 f35 d35 ["_law_deck_here", "_law_kind_here"] (spBK K) := ⟨ok_bk F35.fn T D21 D22 D34, B35, PySem.W.mg_of X G F35.ns, F35.fn.kp⟩
  have B36 : L2.Binds K d36 ["_law_deck_here", "_law_letters", "_law_rule_here"] [] := F36.fn.binds fun _ _ _ _ _ _ us hl => match us, hl with | [_, _, _], _ => rfl
  have D36 : Dfn l.prog w K mg base "_law_bent_rule" 4 f36 d36 ["_law_deck_here", "_law_letters", "_law_rule_here"] (spBR K) := ⟨ok_br F36.fn T D21 D22 D34 D25, B36, PySem.W.mg_of X G F36.ns, F36.fn.kp⟩
  exact ok_law F37.fn T D20 D21 D27 D35 D22 D34 D36 D18 D33
end K17
open PySem PySem.W PyProof.Rows
set_option maxRecDepth 100000 in
set_option maxHeartbeats 0 in
theorem PySem.Challenge.cw_pairedaway_k17_schemes_with_errors_holds : PySem.Challenge.rw_pairedaway_k17_schemes_with_errors.Holds := by
  w_on; o_law; k_head; (case hw => w_witness2)
  k_fill
  refine GL.walk_g (l := PySem.Challenge.rw_pairedaway_k17_schemes_with_errors) (n := 63) (k := 6) (x := "_law_script") (sp := K17.spLaw) rfl (by decide) rfl ⟨rfl, by decide, by decide⟩ (fun w h Y => PySem.W.kIn_of Y) ?F (fun K H a ns hl _ hS => ⟨a, ns, rfl, hS, hl, fun _ => rfl⟩)
  case F =>
    intro w mg fa h KX G hmg
    refine' K17.all_mk KX G hmg (KC.df ?a7 ?l7 ?c7 ?k7) (KC.df ?a8 ?l8 ?c8 ?k8) (KC.df ?a9 ?l9 ?c9 ?k9) (KC.df ?a10 ?l10 ?c10 ?k10) (KC.df ?a11 ?l11 ?c11 ?k11) (KC.df ?a13 ?l13 ?c13 ?k13) (KC.df ?a14 ?l14 ?c14 ?k14) (KC.df ?a15 ?l15 ?c15 ?k15) (KC.df ?a17 ?l17 ?c17 ?k17) (KC.df ?a18 ?l18 ?c18 ?k18) (KC.df ?a20 ?l20 ?c20 ?k20) (KC.df ?a21 ?l21 ?c21 ?k21) (KC.df ?a22 ?l22 ?c22 ?k22) (KC.df ?a23 ?l23 ?c23 ?k23) (KC.df ?a24 ?l24 ?c24 ?k24) (KC.df ?a25 ?l25 ?c25 ?k25) (KC.df ?a26 ?l26 ?c26 ?k26) (KC.df ?a27 ?l27 ?c27 ?k27) (KC.df ?a28 ?l28 ?c28 ?k28) (KC.df ?a29 ?l29 ?c29 ?k29) (KC.df ?a30 ?l30 ?c30 ?k30) (KC.df ?a31 ?l31 ?c31 ?k31) (KC.df ?a32 ?l32 ?c32 ?k32) (KC.df ?a33 ?l33 ?c33 ?k33) (KC.df ?a34 ?l34 ?c34 ?k34) (KC.df ?a35 ?l35 ?c35 ?k35) (KC.df ?a36 ?l36 ?c36 ?k36) (KC.df ?a37 ?l37 ?c37 ?k37) ?z0 ?z1 ?z2 ?z3 ?z4 ?z5 ?z6 ?z7 ?z8 ?z9 ?z10 ?z11 ?m0 ?m1 ?m2 ?m3 ?m4 ?m5
    (case a7 => k_is); (case l7 => k_is); (case c7 => k_is); (case k7 => k_is)
    (case a8 => k_is); (case l8 => k_is); (case c8 => k_is); (case k8 => k_is)
    (case a9 => k_is); (case l9 => k_is); (case c9 => k_is); (case k9 => k_is)
    (case a10 => k_is); (case l10 => k_is); (case c10 => k_is); (case k10 => k_is)
    (case a11 => k_is); (case l11 => k_is); (case c11 => k_is); (case k11 => k_is)
    (case a13 => k_is); (case l13 => k_is); (case c13 => k_is); (case k13 => k_is)
    (case a14 => k_is); (case l14 => k_is); (case c14 => k_is); (case k14 => k_is)
    (case a15 => k_is); (case l15 => k_is); (case c15 => k_is); (case k15 => k_is)
    (case a17 => k_is); (case l17 => k_is); (case c17 => k_is); (case k17 => k_is)
    (case a18 => k_is); (case l18 => k_is); (case c18 => k_is); (case k18 => k_is)
    (case a20 => k_is); (case l20 => k_is); (case c20 => k_is); (case k20 => k_is)
    (case a21 => k_is); (case l21 => k_is); (case c21 => k_is); (case k21 => k_is)
    (case a22 => k_is); (case l22 => k_is); (case c22 => k_is); (case k22 => k_is)
    (case a23 => k_is); (case l23 => k_is); (case c23 => k_is); (case k23 => k_is)
    (case a24 => k_is); (case l24 => k_is); (case c24 => k_is); (case k24 => k_is)
    (case a25 => k_is); (case l25 => k_is); (case c25 => k_is); (case k25 => k_is)
    (case a26 => k_is); (case l26 => k_is); (case c26 => k_is); (case k26 => k_is)
    (case a27 => k_is); (case l27 => k_is); (case c27 => k_is); (case k27 => k_is)
    (case a28 => k_is); (case l28 => k_is); (case c28 => k_is); (case k28 => k_is)
    (case a29 => k_is); (case l29 => k_is); (case c29 => k_is); (case k29 => k_is)
    (case a30 => k_is); (case l30 => k_is); (case c30 => k_is); (case k30 => k_is)
    (case a31 => k_is); (case l31 => k_is); (case c31 => k_is); (case k31 => k_is)
    (case a32 => k_is); (case l32 => k_is); (case c32 => k_is); (case k32 => k_is)
    (case a33 => k_is); (case l33 => k_is); (case c33 => k_is); (case k33 => k_is)
    (case a34 => k_is); (case l34 => k_is); (case c34 => k_is); (case k34 => k_is)
    (case a35 => k_is); (case l35 => k_is); (case c35 => k_is); (case k35 => k_is)
    (case a36 => k_is); (case l36 => k_is); (case c36 => k_is); (case k36 => k_is)
    (case a37 => k_is); (case l37 => k_is); (case c37 => k_is); (case k37 => k_is)
    (case z0 => k_is)
    (case z1 => k_is)
    (case z2 => k_is)
    (case z3 => k_is)
    (case z4 => k_is)
    (case z5 => k_is)
    (case z6 => k_is)
    (case z7 => k_is)
    (case z8 => k_is)
    (case z9 => k_is)
    (case z10 => k_is)
    (case z11 => k_is)
    (case m0 => k_is)
    (case m1 => k_is)
    (case m2 => k_is)
    (case m3 => k_is)
    (case m4 => k_is)
    (case m5 => k_is)
