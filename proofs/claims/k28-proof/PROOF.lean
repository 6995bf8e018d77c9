import PyProof.Rows.All
import Wide.All
import OpenK.AllK
import Wide.FinOn
import HandS.ForMost
import HandS.IsInst
import HandS.TupAny
import HandS.TupMul
import HandS.Conv
import PyProof.NeKinds
import PyProof.ReprLen
import KE.GoesEnum
import HandS.Walk
import HandS.Replace
import PyProof.Rows.RegReprOcc
import PyProof.StrOps2
import KE.BitLaws
import PyProof.MinMaxWalk
import PyProof.EqKinds
import HandS.TupLe
import KE.KRevSl
import HandS.NoneIn
import PySem.Challenge.RW_pairedaway_k28_changes
set_option Elab.async false
set_option maxRecDepth 100000
set_option maxHeartbeats 4000000
/-! Own layer for laws that call repr: promises of defs that run where no repr is under way, data with empty dicts, repr's rule. -/
namespace GL
open PySem PySem.Spec PyProof.Rows L2

/-- a def's promise, claimed only where no guard of repr stands around -/
structure Fg (P : Program) (w : World) (K : PySem.W.Frag) (mg : Str → Option Value) (base : Heap) (CX : CXT) (k : Nat) (f : Addr) (fd : FuncData) (ps : List Str) (sp : Sp) : Prop where
  ln : ∀ vs H Q E, sp vs H Q E → vs.length = ps.length
  go : ∀ (A : Around) (outer : List Env) (s : Shared) (H : Hp) (args : Args) (us : List Value) (vs : List V) (Q : VK) (E : XK), A.guards = some [] → Room k A → Env0 P w K mg base A outer s H →
    BindsTo s fd args (ps.zip us) → Vals vs us → sp vs H Q E → codeAny (model P w) A (.call (.ref f) args) (CR CX outer P w H s Q E) s

theorem Fg.of {P : Program} {w : World} {K : PySem.W.Frag} {mg : Str → Option Value} {base : Heap} {CX : CXT} {k : Nat} {f : Addr} {fd : FuncData} {ps : List Str} {sp : Sp} (F : FnOk P w K mg base CX k f fd ps sp) : Fg P w K mg base CX k f fd ps sp :=
  ⟨F.len, fun A outer s H args us vs Q E _ => F.run A outer s H args us vs Q E⟩

theorem guards_deeper {A : Around} {env : Env} (h : A.guards = some []) : (A.deeper env).guards = some [] := by
  simp [Around.deeper, h]

section
variable {P : Program} {w : World} {K : PySem.W.Frag} {mg : Str → Option Value} {base : Heap}
/-- the rule for such a def: as for any other, with the fact about guards at hand -/
theorem ok_g {x qual : Str} {st : Stmt} {f : Addr} {fd : FuncData} {N ps : List Str} {k : Nat} {sp : Sp} (F : Fun K x qual st f fd) (S : FnScope N ps (defScope st)) (ln : ∀ vs H Q E, sp vs H Q E → vs.length = ps.length)
    (bd : ∀ (cdv : Value) (A : Around) (outer : List Env) (s : Shared) (H : Hp) (vs : List V) (Q : VK) (E : XK), (A.deeper (envOfC qual (defScope st) s.heap.objs.size f cdv)).guards = some [] → Room k (A.deeper (envOfC qual (defScope st) s.heap.objs.size f cdv)) → sp vs H Q E →
      ∃ t, PSs (cxOf CX0 P w K mg base N qual (defScope st) f cdv A outer s H E).nox (defBody st) t ∧ t { nx := fun _ H' => Q .non H', rt := Q } (start N vs) H) : Fg P w K mg base CX0 (k + 1) f fd ps sp := by
  obtain ⟨oc, od, kV, doc, pm, an, cdv, ct, osl, rfl, lk, hcd⟩ := F.ex
  refine ⟨ln, fun A outer s H args us vs Q E hg hr e0 hb r hsp => ?_⟩
  have lv := ln _ _ _ _ hsp
  have KI : K.In s.heap := e0.mod.kin.keeps fun b o q => (e0.bs b o q).1
  have NL : s.heap.NoLimit := e0.mod.nolimit.keeps fun b o q => (e0.bs b o q).1
  have kinds : ∀ y ∈ ps.zip us, (defScope st).names.lookup y.1 = some .local ∨ ((defScope st).names.lookup y.1 = some .cell ∧ ((cellsFrom (s.heap.objs.size + 1) (defScope st).names []).lookup y.1).isSome = true) := by
    rintro ⟨n, v⟩ hy
    cases S.par n (List.of_mem_zip hy).1 with
    | inl q => exact .inl q
    | inr q => exact .inr ⟨q, PySem.W.cellsFrom_some _ _ _ (.inl q)⟩
  refine codeAny_call_function hr.depth (KI _ _ lk) rfl S.co S.gen rfl (PySem.W.codeRec_of KI hcd) (hb _ _ _ _ (wpAny_newFunctionEnv_cells S.kind kinds fun env he s1 x => ?_))
  cases he
  obtain ⟨t, ht, hq⟩ := bd cdv A outer s H vs Q E (guards_deeper hg) (hr.deeper _) hsp
  refine ⟨NL.keeps x.toInCall.keep, codeAny_func (wpAny_mono (ht.nox.run [] s1 (start N vs) H _ (inv_start S hr.hd e0 lv r x) hq) (fun fl s' hs => ?_) fun e s' hs => hs)⟩
  have fin : ∀ {τ : L2.St} {G : Hp} {v : V} {u : Value}, Inv (cxOf CX0 P w K mg base N qual (defScope st) f cdv A outer s H E) [] τ G s' → RelV v u → Q v G → CE outer P w H s Q u s' :=
    fun {τ G v u} J rv q => ⟨v, G, J.os, J.bare, J.base, J.hok, rv, q⟩
  match fl, hs with
  | .ret u, ⟨v, τ, G, J, rv, q⟩ => exact fin J rv q
  | .next, ⟨τ, G, J, q⟩ => exact fin (v := V.non) (u := Value.none) J rfl q
  | .brk, ⟨_, _, _, q⟩ => exact q.elim
  | .cont, ⟨_, _, _, q⟩ => exact q.elim
end

section
variable {X : Cx} {CX : CXT} {k : Nat} {f : Addr} {fd : FuncData} {ps : List Str} {sp : Sp} {E : XK} {x : Str} {p pos : Pos} {e : Expr} {es : List Expr} {t : TA}
/-- f(e, ..) of such a def, without defaults -/
theorem pe_callg (hg : X.A.guards = some []) (F : Fg X.prog X.w X.K X.mg X.base CX k f fd ps sp) (hr : Room k X.A) (gl : Gl X x) (hm : X.mg x = some (.ref f)) (kp : PySem.W.keepIn X.K (.ref f) = true) (hb : Binds X.K fd ps []) (hx : Passes CX X E)
    (ha : PA X (e :: es) t) (hdb : (x == ("__debug__" : Str)) = false := by decide) (se : starEach (e :: es) X.env = (false, eval e X.env) :: starEach es X.env := by rfl) (pl : (backTo pos (starEach es X.env)).any (·.1) = false := by rfl) :
    PE X (.Call (.Name x p) (e :: es) [] pos) (tCall sp [] E t) := by
  refine ⟨fun pins s σ H Q I h => wpAny_Call_Name_kw (ld_glob I gl hm ?_ hdb)⟩
  refine PySem.W.callWith_K (h₀ := X.base) I.ok.mod.kin kp (thn (ha.run pos pins s σ H _ I h) fun us s1 ⟨vs, G, J, r, q⟩ => ⟨J.kIn, ?_⟩) se pl
  replace q : sp vs G Q E := by simpa using q
  have ll : (us ++ ([] : List Value)).length = ps.length := by rw [List.append_nil, ← r.length]; exact F.ln _ _ _ _ q
  have bb := hb s1 us J.kIn ll
  rw [List.append_nil] at bb
  refine wpAny_call (codeAny_mono (F.go X.A X.stack s1 G ⟨us, []⟩ us vs Q E hg hr J.env0 bb r q) fun res s' hq => ?_)
  match res, hq with
  | .error e, hq => exact hx pins σ G s1 e s' J hq
  | .ok (.ret u), hq => exact J.after hq
  | .ok .next, hq => exact hq.elim
  | .ok .brk, hq => exact hq.elim
  | .ok .cont, hq => exact hq.elim
end

/-! ### data, empty dicts among them -/
mutual
inductive Dt (K : PySem.W.Frag) (H : Hp) : V → PyData → Prop
  | non : Dt K H .non .none
  | bl (b : Bool) : Dt K H (.bl b) (.bool b)
  | int (i : Int) : Dt K H (.int i) (.int i)
  | str (x : Str) : Dt K H (.str x) (.str x)
  | lst {a : Addr} {vs : List V} {ds : List PyData} : H a = some (.lst vs) → DtAll K H vs ds → Dt K H (.ref a) (.list ds)
  | tup {a : Addr} {vs : List V} {ds : List PyData} : H a = some (.tup vs) → DtAll K H vs ds → Dt K H (.ref a) (.tuple ds)
  | dic {a : Addr} : H a = some (.dK []) → Dt K H (.ref a) (.dict [])
inductive DtAll (K : PySem.W.Frag) (H : Hp) : List V → List PyData → Prop
  | nil : DtAll K H [] []
  | cons {v : V} {vs : List V} {d : PyData} {ds : List PyData} : Dt K H v d → DtAll K H vs ds → DtAll K H (v :: vs) (d :: ds)
end
section
variable {K : PySem.W.Frag} {H H' : Hp}
mutual
theorem Dt.same (e : Same H H') : ∀ {d : PyData} {v : V}, Dt K H v d → Dt K H' v d
  | _, _, .non => .non
  | _, _, .bl b => .bl b
  | _, _, .int i => .int i
  | _, _, .str x => .str x
  | _, _, .lst h a => .lst (e _ _ h) (DtAll.same e a)
  | _, _, .tup h a => .tup (e _ _ h) (DtAll.same e a)
  | _, _, .dic h => .dic (e _ _ h)
theorem DtAll.same (e : Same H H') : ∀ {ds : List PyData} {vs : List V}, DtAll K H vs ds → DtAll K H' vs ds
  | _, _, .nil => .nil
  | _, _, .cons h a => .cons (Dt.same e h) (DtAll.same e a)
end
theorem DtAll.length {ds : List PyData} : ∀ {vs : List V}, DtAll K H vs ds → vs.length = ds.length := by
  induction ds with
  | nil => intro vs h; cases h; rfl
  | cons d ds ih => intro vs h; cases h with | cons h1 h2 => simp [ih h2]
theorem DtAll.append : ∀ {ds es : List PyData} {vs us : List V}, DtAll K H vs ds → DtAll K H us es → DtAll K H (vs ++ us) (ds ++ es)
  | _, _, _, _, .nil, h => h
  | _, _, _, _, .cons a b, h => .cons a (DtAll.append b h)
theorem DtAll.take : ∀ {ds : List PyData} {vs : List V} (n : Nat), DtAll K H vs ds → DtAll K H (vs.take n) (ds.take n)
  | _, _, 0, _ => .nil
  | _, _, _ + 1, .nil => .nil
  | _, _, n + 1, .cons a b => .cons a (DtAll.take n b)
theorem DtAll.drop : ∀ {ds : List PyData} {vs : List V} (n : Nat), DtAll K H vs ds → DtAll K H (vs.drop n) (ds.drop n)
  | _, _, 0, h => h
  | _, _, _ + 1, .nil => .nil
  | _, _, n + 1, .cons _ b => DtAll.drop n b
theorem DtAll.get : ∀ {ds : List PyData} {vs : List V} {i : Nat} {v : V}, DtAll K H vs ds → vs[i]? = some v → ∃ d, ds[i]? = some d ∧ Dt K H v d
  | _, _, i, _, .nil, h => by simp at h
  | _, _, 0, _, .cons a _, h => by simp at h; subst h; exact ⟨_, rfl, a⟩
  | _, _, i + 1, v, .cons _ b, h => by
    obtain ⟨d, h1, h2⟩ := DtAll.get (i := i) (v := v) b (by simpa using h)
    exact ⟨d, by simpa using h1, h2⟩
end

section
variable {X : Cx} {pins : List (Addr × Obj)} {σ : L2.St} {H : Hp} {s : Shared}
/-- what repr's rules of the library ask of a value -/
structure Shows (prog : Program) (w : World) (h : Heap) (u : Value) (d : PyData) : Prop where
  ex : ∃ as bs, Reads h u d as ∧ ReadAtMost h d.depth bs ∧ ReprK prog w bs h d.depth u d.shown
structure ShowsAll (prog : Program) (w : World) (h : Heap) (us : List Value) (ds : List PyData) : Prop where
  ex : ∃ as bs, ReadsAll h us ds as ∧ ReadAtMost h (PyData.depthAll ds) bs ∧ ReprAllK prog w bs h (PyData.depthAll ds) us (PyData.shownAll ds)
theorem dic_at (I : Inv X pins σ H s) {a : Addr} (h : H a = some (.dK [])) : (a == sysModules) = false ∧ ∃ o es ep, s.heap.get? a = some o ∧ o.cls = .type "dict" ∧ o.data = .dict es ep ∧ es.toList = [] := by
  obtain ⟨_, ne, vs, kv, o, es, ep, h1, h2, h3, _, h5, _⟩ := (show ObjOk X.prog X.w H s.heap a (.dK []) from I.hok a _ h)
  cases kv
  refine ⟨ne, o, es, ep, h1, h2.1, h3, ?_⟩
  cases q : es.toList with
  | nil => rfl
  | cons y ys => rw [q] at h5; cases h5
theorem lst_at (I : Inv X pins σ H s) {a : Addr} {vs : List V} (h : H a = some (.lst vs)) : ∃ its n, Vals vs its ∧ s.heap.get? a = some { cls := .type "list", data := .seq its.toArray n } := by
  obtain ⟨_, its, n, r, e⟩ := (show ObjOk X.prog X.w H s.heap a (.lst vs) from I.hok a _ h)
  exact ⟨its, n, r, e⟩
theorem tup_at (I : Inv X pins σ H s) {a : Addr} {vs : List V} (h : H a = some (.tup vs)) : ∃ its o n, Vals vs its ∧ s.heap.get? a = some o ∧ o.cls = .type "tuple" ∧ o.data = .seq its.toArray n := by
  obtain ⟨_, its, r, o, h1, h2, n, h3⟩ := (show ObjOk X.prog X.w H s.heap a (.tup vs) from I.hok a _ h)
  exact ⟨its, o, n, r, h1, h2, h3⟩
mutual
theorem Dt.shows (I : Inv X pins σ H s) : ∀ (d : PyData) (v : V) (u : Value), Dt X.K H v d → RelV v u → d.showable = true → d.shown.length ≤ sizeLine → Shows X.prog X.w s.heap u d
  | .none, _, _, h, r, _, _ => by
    cases h; cases r
    exact ⟨_, [], .none, (fun _ q => nomatch q), by simp only [PyData.shown]; exact .of_is ReprIs.none _ _ _⟩
  | .bool b, _, _, h, r, _, _ => by
    cases h; cases r
    exact ⟨_, [], .bool b, (fun _ q => nomatch q), by simp only [PyData.shown]; exact .of_is (ReprIs.bool b) _ _ _⟩
  | .int i, _, _, h, r, hs, _ => by
    cases h
    obtain ⟨t, rfl⟩ := r
    exact ⟨_, [], .int i t, (fun _ q => nomatch q), by simp only [PyData.shown]; exact .of_is (ReprIs.int t (by simpa [PyData.showable] using hs)) _ _ _⟩
  | .str x, _, _, h, r, _, hz => by
    cases h
    obtain ⟨t, rfl⟩ := r
    exact ⟨_, [], .str x t, (fun _ q => nomatch q), by simp only [PyData.shown]; exact .of_is (ReprIs.str x t (by simpa only [PyData.shown] using hz)) _ _ _⟩
  | .list ds, _, _, h, r, hs, hz => by
    cases h with
    | @lst a vs _ hl ha =>
      cases r
      have hz' : (listText (PyData.shownAll ds)).length ≤ sizeLine := by simpa only [PyData.shown] using hz
      obtain ⟨its, n, rv, e⟩ := lst_at I hl
      obtain ⟨as, bs, r4, rb, rk⟩ := (Dt.showsAll I ds vs its ha rv (by simpa [PyData.showable] using hs) (fun t ht => Nat.le_trans (listText_mem_le ht) hz')).ex
      have rr : Reads s.heap (.ref a) (.list ds) (a :: as) := .list e rfl rfl r4
      have nm : a ∉ bs := not_mem_of_deeper rr (by simp only [PyData.depth]; omega) rb
      refine ⟨_, a :: bs, rr, ReadAtMost.cons rr (by simp only [PyData.depth]; omega) rb, ?_⟩
      simp only [PyData.depth, PyData.shown]
      cases its with
      | nil =>
        cases r4
        simp only [PyData.shownAll, listText_nil]
        exact ReprK.listEmpty e rfl rfl
      | cons y ys => exact ReprK.list e rfl rfl nm (by simpa using rk.length_eq) (fun i z q => rk.item i z (by simpa using q))
  | .tuple ds, _, _, h, r, hs, hz => by
    cases h with
    | @tup a vs _ hl ha =>
      cases r
      have hz' : (tupleText (PyData.shownAll ds)).length ≤ sizeLine := by simpa only [PyData.shown] using hz
      obtain ⟨its, o, n, rv, e1, e2, e3⟩ := tup_at I hl
      obtain ⟨as, bs, r4, rb, rk⟩ := (Dt.showsAll I ds vs its ha rv (by simpa [PyData.showable] using hs) (fun t ht => Nat.le_trans (tupleText_mem_le ht) hz')).ex
      have rr : Reads s.heap (.ref a) (.tuple ds) as := .tuple e1 e2 e3 r4
      have nm : a ∉ bs := not_mem_of_deeper rr (by simp only [PyData.depth]; omega) rb
      refine ⟨_, a :: bs, rr, ReadAtMost.cons rr (by simp only [PyData.depth]; omega) rb, ?_⟩
      simp only [PyData.depth, PyData.shown]
      exact ReprK.tuple e1 e2 e3 nm rk
  | .dict _, _, _, h, r, _, _ => by
    cases h with
    | @dic a hd =>
      cases r
      obtain ⟨ne, o, es, ep, e1, e2, e3, e4⟩ := dic_at I hd
      have rr : Reads s.heap (.ref a) (.dict []) (a :: [] ++ []) := .dict e1 e2 e3 (by rw [e4]; exact .nil) (by rw [e4]; exact .nil)
      refine ⟨_, [a], rr, ReadAtMost.cons (n := 0) rr (Nat.zero_le _) (fun _ q => nomatch q), ?_⟩
      simp only [PyData.depth, PyData.shown, PyData.shownKv]
      exact ReprK.dict (d := 0) e1 e2 e3 ne (fun q => nomatch q) (by rw [e4]; exact .nil)
theorem Dt.showsAll (I : Inv X pins σ H s) : ∀ (ds : List PyData) (vs : List V) (us : List Value), DtAll X.K H vs ds → Vals vs us → PyData.showableAll ds = true → (∀ t ∈ PyData.shownAll ds, t.length ≤ sizeLine) → ShowsAll X.prog X.w s.heap us ds
  | [], _, _, h, r, _, _ => by
    cases h; cases r
    exact ⟨_, [], .nil, (fun _ q => nomatch q), by simp only [PyData.shownAll]; exact .nil⟩
  | d :: ds, _, _, h, r, hs, hz => by
    cases h with
    | cons h1 h2 =>
      cases r with
      | cons r1 r2 =>
        have hs' : d.showable = true ∧ PyData.showableAll ds = true := by simpa [PyData.showableAll] using hs
        obtain ⟨as, bs, a1, a2, a3⟩ := (Dt.shows I d _ _ h1 r1 hs'.1 (hz _ (by simp only [PyData.shownAll]; exact List.mem_cons_self ..))).ex
        obtain ⟨cs, es, c1, c2, c3⟩ := (Dt.showsAll I ds _ _ h2 r2 hs'.2 (fun t ht => hz t (by simp only [PyData.shownAll]; exact List.mem_cons_of_mem _ ht))).ex
        refine ⟨_, bs ++ es, .cons a1 c1, ?_, ?_⟩
        · simp only [PyData.depthAll]
          exact (a2.mono (Nat.le_max_left _ _)).append (c2.mono (Nat.le_max_right _ _))
        · simp only [PyData.depthAll, PyData.shownAll]
          exact .cons ((a3.more fun b hb => List.mem_append_left _ hb).level_le (Nat.le_max_left _ _)) (c3.more_le (fun b hb => List.mem_append_right _ hb) (Nat.le_max_right _ _))
end
end

/-- repr of data -/
def rReprD (K : PySem.W.Frag) : List V → Hp → VK → Prop := fun xs H Q => ∃ v d, xs = [v] ∧ Dt K H v d ∧ d.showable = true ∧ d.depth ≤ 60 ∧ d.shown.length ≤ sizeLine ∧ Q (.str d.shown) H
theorem call_reprD {X : Cx} (hg : X.A.guards = some []) (hu : X.A.units + 64 < cLine) : CallR X (.builtin "repr") (rReprD X.K) := by
  intro pins s σ H xs us Q I r h
  obtain ⟨v, d, rfl, hd, hs, hdep, hz, q⟩ := h
  obtain ⟨u, rfl, ru⟩ := vals1 r
  have keep : ∀ b o, s.heap.get? b = some o → s.heap.get? b = some o := fun _ _ e => e
  have fin : ∀ (h' : Heap) (t : Tok) (tk : Nat), (∀ b o, s.heap.get? b = some o → h'.get? b = some o) → EP X pins σ Q (.str d.shown t) { s with heap := h', toks := tk } :=
    fun h' t tk k => ⟨.str d.shown, H, I.kept k, ⟨t, rfl⟩, q⟩
  cases hd with
  | non => cases ru; simp only [PyData.shown] at fin; exact PySem.P.repr_of_none (fin _ _ _ keep)
  | bl b => cases ru; simp only [PyData.shown] at fin; exact PySem.P.repr_of_bool (fin _ _ _ keep)
  | int i => obtain ⟨t, rfl⟩ := ru; simp only [PyData.shown] at fin; exact PySem.P.repr_of_int (by simpa [PyData.showable] using hs) (fin _ _ _ keep)
  | str x => obtain ⟨t, rfl⟩ := ru; simp only [PyData.shown] at fin; exact PySem.P.repr_of_str (fin _ _ _ keep) (by simpa only [PyData.shown] using hz)
  | @lst a vs ds hl ha =>
    cases ru
    simp only [PyData.depth] at hdep
    simp only [PyData.shown] at fin
    have hz' : (listText (PyData.shownAll ds)).length ≤ sizeLine := by simpa only [PyData.shown] using hz
    obtain ⟨its, n, rv, e⟩ := lst_at I hl
    obtain ⟨as, bs, r4, rb, rk⟩ := (Dt.showsAll I ds vs its ha rv (by simpa [PyData.showable] using hs) (fun t ht => Nat.le_trans (listText_mem_le ht) hz')).ex
    have rr : Reads s.heap (.ref a) (.list ds) (a :: as) := .list e rfl rfl r4
    have nm : a ∉ bs := not_mem_of_deeper rr (by simp only [PyData.depth]; omega) rb
    refine call_repr_slot (T := "list") (by omega) ⟨_, e, rfl⟩ F.slot_list_repr.toG ?_
    cases its with
    | nil =>
      cases r4
      simp only [PyData.shownAll, listText_nil] at fin
      exact call_list_repr_empty ⟨_, e, rfl⟩ e rfl ⟨_, _, rfl, fin _ _ _ keep⟩
    | cons y ys =>
      exact call_list_reprK e rfl rfl nm (by simpa using rk.length_eq) (fun i z q => rk.item i z (by simpa using q)) (A := X.A.in1) hg (fun b _ => Clear.nil b) (by show X.A.units + 1 + _ < cLine; omega) keep (fun h' t tk k => ⟨_, _, rfl, fin h' t tk k⟩) hz'
  | @tup a vs ds hl ha =>
    cases ru
    simp only [PyData.depth] at hdep
    simp only [PyData.shown] at fin
    have hz' : (tupleText (PyData.shownAll ds)).length ≤ sizeLine := by simpa only [PyData.shown] using hz
    obtain ⟨its, o, n, rv, e1, e2, e3⟩ := tup_at I hl
    obtain ⟨as, bs, r4, rb, rk⟩ := (Dt.showsAll I ds vs its ha rv (by simpa [PyData.showable] using hs) (fun t ht => Nat.le_trans (tupleText_mem_le ht) hz')).ex
    have rr : Reads s.heap (.ref a) (.tuple ds) as := .tuple e1 e2 e3 r4
    have nm : a ∉ bs := not_mem_of_deeper rr (by simp only [PyData.depth]; omega) rb
    refine call_repr_slot (T := "tuple") (by omega) ⟨_, e1, e2⟩ F.slot_tuple_repr ?_
    exact call_tuple_reprK e1 e2 e3 nm rk (A := X.A.in1) hg (fun b _ => Clear.nil b) (by show X.A.units + 1 + _ < cLine; omega) keep (fun h' t tk k => ⟨_, _, rfl, fin h' t tk k⟩) hz'
  | @dic a hdk =>
    cases ru
    simp only [PyData.shown, PyData.shownKv] at fin
    obtain ⟨ne, o, es, ep, e1, e2, e3, e4⟩ := dic_at I hdk
    refine call_repr_slot (T := "dict") (by omega) ⟨_, e1, e2⟩ F.slot_dict_repr ?_
    exact call_dict_reprK (ps := []) (d := 0) (as := []) e1 e2 e3 ne (fun q => nomatch q) (by rw [e4]; exact .nil) (A := X.A.in1) hg (fun b _ => Clear.nil b) (by show X.A.units + 1 + _ < cLine; omega) keep (fun h' t tk k => ⟨_, _, rfl, fin h' t tk k⟩) (by simp only [PyData.shown, PyData.shownKv] at hz; exact hz)
end GL

/-! The end of a law whose def is promised where no guard of repr stands. -/
namespace GL
open PySem PySem.Spec PyProof.Rows L2 PySem.W

section
variable {P : Program} {w : World} {K : PySem.W.Frag} {mg mb : Str → Option Value} {k : Nat} {fa a : Addr} {fd : FuncData} {x : Str} {sp : Sp} {s₁ : Shared} {vs : List Value} {ns : List Int}
theorem nil_no {b : Addr} : b ∉ ([] : List Addr) := fun z => nomatch z
/-- the law's call, from one abstract heap in which the script alone may be tracked -/
theorem law_core (KI : K.In s₁.heap) (g1 : s₁.heap.Ns mainGlobals mg) (g2 : s₁.heap.Ns builtinsNs mb) (g3 : ∀ y : Str, y ≠ "__name__" → mb y = bootBuiltins y) (nl : s₁.heap.NoLimit) (hg : s₁.gens = #[])
    (ha : s₁.heap.get? a = some { cls := .type "list", data := .seq vs.toArray }) (hr : Room k callerA)
    (F : ∀ base : Heap, K.In base → base.Ns mainGlobals mg → Fg P w K mg base CX0 k fa fd [x] sp) (bd : ∀ (s : Shared) (u : Value), BindsTo s fd ⟨[u], []⟩ [(x, u)])
    (H : Hp) (on : Only H) (hq : sp [.ref a] H (fun v _ => v = .bl true) fun _ _ _ => False) (ok : HOk P w H s₁.heap) (one : ∀ b, H b ≠ none → b = a) (nk : H a ≠ none → K.lookup a = none) :
    codeAny (model P w) callerA (.call (.ref fa) ⟨[.ref a], []⟩) (fun r s' => r = .ok (.ret (.bool true)) ∧ OldK s₁.heap s'.heap ∧ s'.os = s₁.os ∧ AllBare s'.gens) s₁ := by
  have out : ∀ {b : Addr} {o : Obj}, s₁.heap.get? b = some o → (b = a → H a = none) → (hidT s₁.heap H).get? b = some o := fun {b o} e n => hidT_get e (by
    by_cases z : H b = none
    · exact z
    · have zz := one b z
      rw [zz]; exact n zz)
  have dct : ∀ {b : Addr} {o : Obj} {es : Array DictEntry} {ep : Nat}, s₁.heap.get? b = some o → o.data = .dict es ep → b ≠ a := fun {b o es ep} e d z => by
    rw [z, ha] at e
    cases e
    exact nomatch (show Data.seq vs.toArray _ = Data.dict es ep from d)
  have nsK : ∀ {b : Addr} {m : Str → Option Value}, s₁.heap.Ns b m → (hidT s₁.heap H).Ns b m := fun {b m} q => by
    obtain ⟨o, es, ep, e, d, r⟩ := q
    exact ⟨o, es, ep, out e (fun z => absurd z (dct e d)), d, r⟩
  have KB : K.In (hidT s₁.heap H) := fun b o e => out (KI b o e) fun z => by
    by_cases y : H a = none
    · exact y
    · rw [z, nk y] at e; cases e
  have md : Mod K mg (hidT s₁.heap H) := ⟨KB, nsK g1, ⟨mb, nsK g2, g3⟩, let ⟨mc, c1, c2⟩ := nl; ⟨mc, nsK c1, c2⟩⟩
  have ev : Env0 P w K mg (hidT s₁.heap H) callerA [] s₁ H := ⟨rfl, md, fun _ _ e => of_hidT e, Nat.le_of_eq (hidT_size _ _), trivial, fun b z => absurd z nil_no, ok, .of_eq hg⟩
  refine codeAny_mono ((F _ KB (nsK g1)).go callerA [] s₁ H ⟨[.ref a], []⟩ [.ref a] [.ref a] _ _ rfl hr ev (bd s₁ (.ref a)) (.cons rfl .nil) hq) fun r s' h => ?_
  match r, h with
  | .error e, h => exact h.elim
  | .ok .next, h => exact h.elim
  | .ok .brk, h => exact h.elim
  | .ok .cont, h => exact h.elim
  | .ok (.ret u), ⟨v, G, os, br, un, okG, rv, q⟩ =>
    cases (show v = .bl true from q)
    cases (show u = Value.bool true from rv)
    refine ⟨rfl, OldK.of_keep fun b o e => ?_, os, br⟩
    rcases on b with z | ⟨ob, xs, z⟩
    · exact un.keep b o e z nil_no nil_no
    · have e1 := (ok b _ z).1
      have e2 := (okG b _ (un.frzs b ob _ z)).1
      rw [e] at e1
      cases e1
      exact e2

theorem law_end (KI : K.In s₁.heap) (g1 : s₁.heap.Ns mainGlobals mg) (g2 : s₁.heap.Ns builtinsNs mb) (g3 : ∀ y : Str, y ≠ "__name__" → mb y = bootBuiltins y) (nl : s₁.heap.NoLimit) (hg : s₁.gens = #[])
    (ha : s₁.heap.get? a = some { cls := .type "list", data := .seq vs.toArray }) (hi : IntsAre vs ns) (hz : ns.length ≤ sizeLine) (hr : Room k callerA)
    (F : ∀ base : Heap, K.In base → base.Ns mainGlobals mg → Fg P w K mg base CX0 k fa fd [x] sp) (bd : ∀ (s : Shared) (u : Value), BindsTo s fd ⟨[u], []⟩ [(x, u)])
    (hsp : ∀ H : Hp, Only H → SqL K H a (ns.map V.int) → sp [.ref a] H (fun v _ => v = .bl true) fun _ _ _ => False) :
    codeAny (model P w) callerA (.call (.ref fa) ⟨[.ref a], []⟩) (fun r s' => r = .ok (.ret (.bool true)) ∧ OldK s₁.heap s'.heap ∧ s'.os = s₁.os ∧ AllBare s'.gens) s₁ := by
  have rv := vals_ints hi
  have ll : vs.length = ns.length := hi.length
  cases hk : K.lookup a with
  | some o =>
    have e := KI a o hk
    rw [ha] at e
    cases e
    have no : ∀ {b : Addr} {u : HO}, ((fun _ => none) : Hp) b ≠ some u := fun {b u} z => nomatch (show (none : Option HO) = some u from z)
    exact law_core KI g1 g2 g3 nl hg ha hr F bd (fun _ => none) (fun _ => .inl rfl) (hsp _ (fun _ => .inl rfl) (.inr ⟨_, vs.toArray, _, hk, rfl, rfl, rfl, by rw [List.size_toArray, ll]; exact hz, by simpa using rv⟩))
      (fun b u z => absurd z (no (b := b))) (fun b z => absurd rfl z) (fun z => absurd rfl z)
  | none =>
    have g : ∃ G : Hp, G a = some (.frz { cls := .type "list", data := .seq vs.toArray } (.lst (ns.map V.int))) ∧ ∀ b, b ≠ a → G b = none := ⟨fun b => if b = a then _ else none, if_pos rfl, fun b n => if_neg n⟩
    obtain ⟨G, y1, y2⟩ := g
    have on : Only G := fun b => by
      by_cases e : b = a
      · exact .inr ⟨_, _, e ▸ y1⟩
      · exact .inl (y2 b e)
    refine law_core KI g1 g2 g3 nl hg ha hr F bd G on (hsp G on (.inl (.inr ⟨_, y1⟩))) (fun b u z => ?_) (fun b z => ?_) fun _ => hk
    · by_cases e : b = a
      · subst e
        rw [y1] at z
        cases z
        exact ⟨ha, by rw [List.length_map]; exact hz, vs, _, rv, ha⟩
      · rw [y2 b e] at z; cases z
    · exact Classical.byContradiction fun e => z (y2 b e)
end

/-- the goal that the head leaves -/
theorem walk_g {l : PySem.W.OpenLaw} {n k : Nat} {q : Program} {loose : List Str} {XP : (Str → Option Value) → Heap → Prop} {YP : World → Heap → Prop} {d : DefRec} {K : Params → PySem.W.Frag} {sp : PySem.W.Frag → Sp} {x : Str}
    (hn : l.most = some n) (n2 : n ≤ sizeLine) (nd : d.params.defaults = []) (hr : Room k callerA) (hY : ∀ (w : World) (h : Heap), YP w h → (K w.params).In h)
    (F : ∀ (w : World) (mg : Str → Option Value) (fa : Addr) (h : Heap), (K w.params).In h → h.Ns mainGlobals mg → mg d.name = some (.ref fa) →
      ∃ fd : FuncData, (∀ (s : Shared) (u : Value), BindsTo s fd ⟨[u], []⟩ [(x, u)]) ∧ ∀ base : Heap, (K w.params).In base → base.Ns mainGlobals mg → Fg l.prog w (K w.params) mg base CX0 k fa fd [x] (sp (K w.params)))
    (hsp : ∀ (K : PySem.W.Frag) (H : Hp) (a : Addr) (ns : List Int), ns.length ≤ n → Only H → SqL K H a (ns.map V.int) → sp K [.ref a] H (fun v _ => v = .bl true) fun _ _ _ => False) :
    PySem.W.WalkO q loose XP YP l.row.toRowW d [] (fun f vs => PySem.call f vs) := by
  refine Att.attach_call hn nd fun w s₀ s₁ mg mb fa o pm cd doc a vs ns G Y ho hd hcd hmg hobj hints hlen hg => ?_
  have KI := hY w _ Y
  obtain ⟨fd, hb, hF⟩ := F w mg fa _ KI G.T.g hmg
  exact law_end KI G.T.g G.T.b G.T.builtins G.T.nolimit hg hobj hints (Nat.le_trans hlen n2) hr hF hb fun H on hS => hsp _ H a ns hlen on hS
end GL

namespace KC
open PySem L2 GL
theorem same_new {H : Hp} {p : Addr} (h : H p = none) (o : HO) : Same H (upd H p o) := fun b u q => by rw [upd_ne (ne_of_none q h)]; exact q
theorem same_grow {H H1 : Hp} {p : Addr} (h : H p = none) (e : Same H H1) (o : HO) : Same H (upd H1 p o) := fun b u q => by rw [upd_ne (ne_of_none q h)]; exact e b u q
structure Dfn (P : Program) (w : World) (K : PySem.W.Frag) (mg : Str → Option Value) (base : Heap) (name : Str) (k : Nat) (f : Addr) (fd : FuncData) (ps : List Str) (sp : Sp) : Prop where
  ok : FnOk P w K mg base CX0 k f fd ps sp
  b : L2.Binds K fd ps []
  m : mg name = some (.ref f)
  kp : PySem.W.keepIn K (.ref f) = true
/-- a def promised where no guard of repr stands -/
structure Gfn (P : Program) (w : World) (K : PySem.W.Frag) (mg : Str → Option Value) (base : Heap) (name : Str) (k : Nat) (f : Addr) (fd : FuncData) (ps : List Str) (sp : Sp) : Prop where
  ok : Fg P w K mg base CX0 k f fd ps sp
  b : L2.Binds K fd ps []
  m : mg name = some (.ref f)
  kp : PySem.W.keepIn K (.ref f) = true
/-- len of a list or tuple, the written part by its name -/
def rLenS (K : PySem.W.Frag) : List V → Hp → VK → Prop := fun xs H Q => ∃ (p : Addr) (ys : List V), xs = [.ref p] ∧ (SqL K H p ys ∨ SqT K H p ys) ∧ Q (.int ys.length) H
theorem call_lenS {X : Cx} : CallR X (.builtin "len") (rLenS X.K) := call_len_seq
/-! ### how long a value is when it is shown -/
mutual
def wt : PyData → Nat
  | .none => 4
  | .bool _ => 5
  | .int i => (PyData.int i).shown.length
  | .str x => (PyData.str x).shown.length
  | .list ds => wts ds + 3
  | .tuple ds => wts ds + 3
  | .dict _ => 2
def wts : List PyData → Nat
  | [] => 0
  | d :: ds => wt d + 2 + wts ds
end
theorem len_wts : ∀ ds : List PyData, ds.length ≤ wts ds
  | [] => Nat.le_refl _
  | d :: ds => by have := len_wts ds; simp only [wts, List.length_cons]; omega
theorem mem_wts {d : PyData} : ∀ {ds : List PyData}, d ∈ ds → wt d ≤ wts ds
  | e :: ds, h => by
    simp only [wts]
    rcases List.mem_cons.mp h with rfl | h
    · omega
    · have := mem_wts h; omega
/-! ### the deck: a list of a list of numbers and of how many were drawn -/
/-- the heap without the deck's two lists -/
def Hd (d c : Addr) (H : Hp) : Hp := fun b => if b = d ∨ b = c then none else H b
theorem hd_some {d c b : Addr} {H : Hp} {o : HO} (h : Hd d c H b = some o) : H b = some o ∧ b ≠ d ∧ b ≠ c := by
  unfold Hd at h
  by_cases e : b = d ∨ b = c
  · rw [if_pos e] at h; cases h
  · rw [if_neg e] at h; exact ⟨h, fun z => e (.inl z), fun z => e (.inr z)⟩
theorem hd_of {d c b : Addr} {H : Hp} {o : HO} (h : H b = some o) (n1 : b ≠ d) (n2 : b ≠ c) : Hd d c H b = some o := by
  unfold Hd
  rw [if_neg fun e => e.elim n1 n2]; exact h
theorem hd_sub {d c : Addr} {H : Hp} : Same (Hd d c H) H := fun _ _ h => (hd_some h).1
theorem hd_new {d c p : Addr} {H : Hp} (h : H p = none) (o : HO) : Same (Hd d c H) (Hd d c (upd H p o)) := fun b u q => by
  obtain ⟨q1, q2, q3⟩ := hd_some q
  exact hd_of (same_new h o b u q1) q2 q3
theorem hd_put {d c p : Addr} {H : Hp} (h : p = d ∨ p = c) (o : HO) : Same (Hd d c H) (Hd d c (upd H p o)) := fun b u q => by
  obtain ⟨q1, q2, q3⟩ := hd_some q
  refine hd_of ?_ q2 q3
  rw [upd_ne (fun e => h.elim (fun z => q2 (e.trans z)) fun z => q3 (e.trans z))]; exact q1
theorem hd_same {d c : Addr} {H H' : Hp} (h : Same H H') : Same (Hd d c H) (Hd d c H') := fun b u q => by
  obtain ⟨q1, q2, q3⟩ := hd_some q
  exact hd_of (h b u q1) q2 q3

/-- the deck at d, its cells at c, with at most m numbers drawn -/
structure Deck (H : Hp) (d c : Addr) (m : Nat) : Prop where
  ne : d ≠ c
  ex : ∃ (L : List Int) (n : Nat), H d = some (.lst [.ref c, .int n]) ∧ H c = some (.lst (L.map V.int)) ∧ L.length ≤ 63 ∧ (∀ x ∈ L, 0 ≤ x) ∧ n ≤ m
theorem Deck.same {H H' : Hp} {d c : Addr} {m : Nat} (D : Deck H d c m) (s : Same H H') : Deck H' d c m := by
  obtain ⟨L, n, h1, h2, h3⟩ := D.ex
  exact ⟨D.ne, L, n, s _ _ h1, s _ _ h2, h3⟩
theorem Deck.mono {H : Hp} {d c : Addr} {m k : Nat} (D : Deck H d c m) (h : m ≤ k) : Deck H d c k := by
  obtain ⟨L, n, h1, h2, h3, h4, h5⟩ := D.ex
  exact ⟨D.ne, L, n, h1, h2, h3, h4, Nat.le_trans h5 h⟩
theorem Deck.new {H : Hp} {d c : Addr} {m : Nat} (D : Deck H d c m) {p : Addr} (h : H p = none) (o : HO) : Deck (upd H p o) d c m := D.same (same_new h o)

def spDeck (K : PySem.W.Frag) : Sp := fun vs H Q _ => ∃ (a : Addr) (ns : List Int), vs = [.ref a] ∧ SqL K H a (ns.map V.int) ∧ ns.length ≤ 63 ∧ ∀ d c H', Same H H' → H d = none → H c = none → Deck H' d c 0 → Q (.ref d) H'
def spDraw : Sp := fun vs H Q _ => ∃ (d c : Addr) (many : Int) (m : Nat), vs = [.ref d, .int many] ∧ Deck H d c m ∧ m ≤ 1000000000 ∧ 0 < many ∧ many < 1073741824 ∧
  ∀ (r : Int) (H' : Hp), 0 ≤ r → r < many → Deck H' d c (m + 1) → Same (Hd d c H) (Hd d c H') → Q (.int r) H'
def spOne : Sp := fun vs H Q _ => ∃ (d c a : Addr) (xs : List V) (m : Nat), vs = [.ref d, .ref a] ∧ Deck H d c m ∧ m ≤ 1000000000 ∧ Hd d c H a = some (.lst xs) ∧ 0 < xs.length ∧ xs.length ≤ 100000 ∧
  ∀ (v : V) (H' : Hp), v ∈ xs → Deck H' d c (m + 1) → Same (Hd d c H) (Hd d c H') → Q v H'

def rAbs : List V → Hp → VK → Prop := fun xs H Q => ∃ i : Int, xs = [.int i] ∧ Q (.int (if i < 0 then -i else i)) H
theorem call_absS {X : Cx} : CallR X (.builtin "abs") rAbs := call_abs
theorem cut_mem {xs : List V} {lo hi : Option Int} {x : V} (h : x ∈ cutV xs lo hi) : x ∈ xs := List.mem_of_mem_drop (List.mem_of_mem_take h)

/-! ### machines that are drawn -/
def emp : Hp := fun _ => none
theorem emp_same {H : Hp} : Same emp H := fun _ _ h => nomatch (show (none : Option HO) = some _ from h)
/-- one more thing hidden -/
def Hr (R : Addr) (H : Hp) : Hp := fun b => if b = R then none else H b
theorem hr_some {R b : Addr} {H : Hp} {o : HO} (h : Hr R H b = some o) : H b = some o ∧ b ≠ R := by
  unfold Hr at h
  by_cases e : b = R
  · rw [if_pos e] at h; cases h
  · rw [if_neg e] at h; exact ⟨h, e⟩
theorem hr_of {R b : Addr} {H : Hp} {o : HO} (h : H b = some o) (n : b ≠ R) : Hr R H b = some o := by
  unfold Hr; rw [if_neg n]; exact h
theorem hr_sub {R : Addr} {H : Hp} : Same (Hr R H) H := fun _ _ h => (hr_some h).1
theorem hr_same {R : Addr} {H H' : Hp} (s : Same H H') : Same (Hr R H) (Hr R H') := fun b o h => hr_of (s _ _ (hr_some h).1) (hr_some h).2
theorem hr_put {R d c : Addr} {G : Hp} {o : HO} : Same (Hr R (Hd d c G)) (Hr R (Hd d c (upd G R o))) := fun b u h => by
  obtain ⟨h1, h2⟩ := hr_some h
  obtain ⟨h3, h4, h5⟩ := hd_some h1
  exact hr_of (hd_of (by rw [upd_ne h2]; exact h3) h4 h5) h2
theorem hd_none {d c p : Addr} {H : Hp} (n : H p = none) : Hd d c H p = none := by
  unfold Hd
  split
  · rfl
  · exact n
theorem hd_grow {d c p : Addr} {H G : Hp} (n : Hd d c H p = none) (s : Same (Hd d c H) (Hd d c G)) (o : HO) : Same (Hd d c H) (Hd d c (upd G p o)) := fun b u h => by
  obtain ⟨_, h2, h3⟩ := hd_some h
  exact hd_of (by rw [upd_ne (ne_of_none h n)]; exact (hd_some (s _ _ h)).1) h2 h3
theorem Deck.put {H : Hp} {d c p : Addr} {m : Nat} (D : Deck H d c m) (n1 : p ≠ d) (n2 : p ≠ c) (o : HO) : Deck (upd H p o) d c m := by
  obtain ⟨L, n, h1, h2, h3⟩ := D.ex
  exact ⟨D.ne, L, n, by rw [upd_ne n1.symm]; exact h1, by rw [upd_ne n2.symm]; exact h2, h3⟩
theorem Deck.free {H : Hp} {d c p : Addr} {m : Nat} (D : Deck H d c m) (n : H p = none) : p ≠ d ∧ p ≠ c := by
  obtain ⟨L, k, h1, h2, h3⟩ := D.ex
  exact ⟨(ne_of_none h1 n).symm, (ne_of_none h2 n).symm⟩

def IsRow (l n : Nat) (r : PyData) : Prop := ∃ xs, r = .tuple xs ∧ xs.length = l ∧ ∀ x ∈ xs, x = .none ∨ ∃ i : Int, x = .int i ∧ 0 ≤ i ∧ i < n
def IsMach (l n : Nat) (md : PyData) : Prop := ∃ (rs : List PyData) (bs : List Bool), md = .tuple [.int l, .tuple rs, .tuple (bs.map .bool)] ∧ rs.length = n ∧ bs.length = n ∧ ∀ r ∈ rs, IsRow l n r
def spMach (K : PySem.W.Frag) : Sp := fun vs H Q _ => ∃ (d c : Addr) (l n m : Nat), vs = [.ref d, .int l, .int n] ∧ Deck H d c m ∧ m ≤ 900000000 ∧ 1 ≤ l ∧ l ≤ 4 ∧ 1 ≤ n ∧ n ≤ 400 ∧
  ∀ (p : Addr) (md : PyData) (H' : Hp), IsMach l n md → Dt K (Hd d c H') (.ref p) md → Deck H' d c (m + 4000) → Same (Hd d c H) (Hd d c H') → Q (.ref p) H'
theorem bools_dt {K : PySem.W.Frag} {H : Hp} : ∀ bs : List Bool, DtAll K H (bs.map V.bl) (bs.map .bool)
  | [] => .nil
  | b :: bs => .cons (.bl b) (bools_dt bs)

/-! ### a list against an empty one, a tuple against an empty one -/
def rNe0 : R2 := fun x y H Q => ∃ (a b : Addr) (xs : List V), x = .ref a ∧ y = .ref b ∧ H a = some (.lst xs) ∧ H b = some (.lst []) ∧ Q (.bl (!xs.isEmpty)) H
def rEq0 : R2 := fun x y H Q => ∃ (a b : Addr) (xs : List V), x = .ref a ∧ y = .ref b ∧ H a = some (.tup xs) ∧ H b = some (.tup []) ∧ Q (.bl xs.isEmpty) H
theorem op_ne0 {X : Cx} (hu : X.A.units < cLine) : OpR X (compareOp .NotEq) rNe0 := by
  intro pins s σ H x y v u Q I rx ry h
  obtain ⟨a, b, xs, rfl, rfl, ha, hb, q⟩ := h
  cases rx
  cases ry
  obtain ⟨its, n, rv, e⟩ := lst_at I ha
  obtain ⟨its2, n2, rv2, e2⟩ := lst_at I hb
  cases rv2
  have l1 : s.heap.IsList a its.toArray := ⟨_, e, rfl, n, rfl⟩
  have l2 : s.heap.IsList b ([] : List Value).toArray := ⟨_, e2, rfl, n2, rfl⟩
  cases its with
  | nil =>
    cases rv
    exact SeqAt.RcNeAt.lists (e := fun _ => true) l1 l2 rfl hu (fun j h1 _ => absurd h1 (Nat.not_lt_zero j)) X.prog X.w _ _ ⟨.bl false, H, I, rfl, q⟩
  | cons y ys =>
    cases rv with
    | cons r1 r2 => exact SeqAt.RcNeAt.lists_lengths l1 l2 rfl hu X.prog X.w _ _ ⟨.bl true, H, I, rfl, q⟩
theorem op_eq0 {X : Cx} (hu : X.A.units < cLine) : OpR X (compareOp .Eq) rEq0 := by
  intro pins s σ H x y v u Q I rx ry h
  obtain ⟨a, b, xs, rfl, rfl, ha, hb, q⟩ := h
  cases rx
  cases ry
  obtain ⟨its, o, n, rv, e, ec, ed⟩ := tup_at I ha
  obtain ⟨its2, o2, n2, rv2, e2, ec2, ed2⟩ := tup_at I hb
  cases rv2
  have l1 : s.heap.IsTuple a its.toArray := ⟨_, e, ec, n, ed⟩
  have l2 : s.heap.IsTuple b ([] : List Value).toArray := ⟨_, e2, ec2, n2, ed2⟩
  cases its with
  | nil =>
    cases rv
    exact SeqAt.RcAt.tuples (e := fun _ => true) l1 l2 hu (fun j h1 _ => absurd h1 (Nat.not_lt_zero j)) X.prog X.w _ _ ⟨.bl true, H, I, rfl, q⟩
  | cons y ys =>
    cases rv with
    | cons r1 r2 => exact SeqAt.RcAt.tuples (e := fun _ => true) l1 l2 hu (fun j _ h2 => absurd h2 (Nat.not_lt_zero j)) X.prog X.w _ _ ⟨.bl false, H, I, rfl, q⟩

/-! ### what can be shown -/
mutual
theorem shown_wt {K : PySem.W.Frag} {H : Hp} : ∀ (d : PyData) (v : V), Dt K H v d → d.shown.length ≤ wt d
  | .none, _, _ => by decide +kernel
  | .bool b, _, _ => by cases b <;> decide +kernel
  | .int _, _, _ => Nat.le_refl _
  | .str _, _, _ => Nat.le_refl _
  | .list ds, _, h => by
    cases h with
    | lst _ ha =>
      have h1 := listText_len_le (PyData.shownAll ds)
      have h2 := shownAll_wt ds _ ha
      simp only [PyData.shown, wt]
      omega
  | .tuple ds, _, h => by
    cases h with
    | tup _ ha =>
      have h1 := tupleText_len_le (PyData.shownAll ds)
      have h2 := shownAll_wt ds _ ha
      simp only [PyData.shown, wt]
      omega
  | .dict _, _, h => by
    cases h with
    | dic _ =>
      simp only [PyData.shown, PyData.shownKv, wt]
      decide +kernel
theorem shownAll_wt {K : PySem.W.Frag} {H : Hp} : ∀ (ds : List PyData) (vs : List V), DtAll K H vs ds → ((PyData.shownAll ds).map (·.length)).sum + 2 * (PyData.shownAll ds).length ≤ wts ds
  | [], _, _ => by simp [PyData.shownAll, wts]
  | d :: ds, _, h => by
    cases h with
    | cons h1 h2 =>
      have e1 := shown_wt d _ h1
      have e2 := shownAll_wt ds _ h2
      simp only [PyData.shownAll, wts, List.map_cons, List.sum_cons, List.length_cons]
      omega
end
/-- small, shallow, with ints that can be shown -/
structure Fit (n k : Nat) (d : PyData) : Prop where
  w : wt d ≤ n
  k : d.depth ≤ k
  s : d.showable = true
structure FitAll (n k : Nat) (ds : List PyData) : Prop where
  w : wts ds ≤ n
  k : PyData.depthAll ds ≤ k
  s : PyData.showableAll ds = true
theorem Fit.mono {n k m j : Nat} {d : PyData} (h : Fit n k d) (a : n ≤ m) (b : k ≤ j) : Fit m j d := ⟨Nat.le_trans h.w a, Nat.le_trans h.k b, h.s⟩
theorem Fit.tup {n k : Nat} {ds : List PyData} (h : FitAll n k ds) : Fit (n + 3) (k + 1) (.tuple ds) := ⟨by simp only [wt]; have := h.w; omega, by simp only [PyData.depth]; have := h.k; omega, by simp only [PyData.showable]; exact h.s⟩
theorem Fit.lst {n k : Nat} {ds : List PyData} (h : FitAll n k ds) : Fit (n + 3) (k + 1) (.list ds) := ⟨by simp only [wt]; have := h.w; omega, by simp only [PyData.depth]; have := h.k; omega, by simp only [PyData.showable]; exact h.s⟩
theorem FitAll.nil {k : Nat} : FitAll 0 k [] := ⟨by simp only [wts]; exact Nat.le_refl 0, by simp only [PyData.depthAll]; exact Nat.zero_le _, by simp only [PyData.showableAll]⟩
theorem FitAll.cons {n m k : Nat} {d : PyData} {ds : List PyData} (a : Fit n k d) (b : FitAll m k ds) : FitAll (n + 2 + m) k (d :: ds) :=
  ⟨by simp only [wts]; have := a.w; have := b.w; omega, by simp only [PyData.depthAll]; exact Nat.max_le.mpr ⟨a.k, b.k⟩, by simp only [PyData.showableAll, a.s, b.s, Bool.and_self]⟩
theorem FitAll.mono {n k m j : Nat} {ds : List PyData} (h : FitAll n k ds) (a : n ≤ m) (b : k ≤ j) : FitAll m j ds := ⟨Nat.le_trans h.w a, Nat.le_trans h.k b, h.s⟩
theorem FitAll.append {n m k : Nat} : ∀ {ds es : List PyData}, FitAll n k ds → FitAll m k es → FitAll (n + m) k (ds ++ es)
  | [], es, _, b => b.mono (Nat.le_add_left _ _) (Nat.le_refl _)
  | d :: ds, es, a, b => by
    have w := a.w
    have kk := a.k
    have ss := a.s
    simp only [wts] at w
    simp only [PyData.depthAll] at kk
    simp only [PyData.showableAll, Bool.and_eq_true] at ss
    have r : FitAll (wts ds + m) k (ds ++ es) := FitAll.append ⟨Nat.le_refl _, Nat.le_trans (Nat.le_max_right _ _) kk, ss.2⟩ b
    exact (FitAll.cons (n := wt d) ⟨Nat.le_refl _, Nat.le_trans (Nat.le_max_left _ _) kk, ss.1⟩ r).mono (by omega) (Nat.le_refl _)
theorem FitAll.take {n k : Nat} : ∀ {ds : List PyData} (i : Nat), FitAll n k ds → FitAll n k (ds.take i)
  | ds, 0, _ => by rw [List.take_zero]; exact FitAll.nil.mono (Nat.zero_le _) (Nat.le_refl _)
  | [], i + 1, a => a
  | d :: ds, i + 1, a => by
    have w := a.w
    have kk := a.k
    have ss := a.s
    simp only [wts] at w
    simp only [PyData.depthAll] at kk
    simp only [PyData.showableAll, Bool.and_eq_true] at ss
    have r : FitAll (wts ds) k (ds.take i) := FitAll.take i ⟨Nat.le_refl _, Nat.le_trans (Nat.le_max_right _ _) kk, ss.2⟩
    exact (FitAll.cons (n := wt d) ⟨Nat.le_refl _, Nat.le_trans (Nat.le_max_left _ _) kk, ss.1⟩ r).mono (by omega) (Nat.le_refl _)
theorem FitAll.drop {n k : Nat} : ∀ {ds : List PyData} (i : Nat), FitAll n k ds → FitAll n k (ds.drop i)
  | ds, 0, a => a
  | [], i + 1, a => a
  | d :: ds, i + 1, a => by
    have w := a.w
    have kk := a.k
    have ss := a.s
    simp only [wts] at w
    simp only [PyData.depthAll] at kk
    simp only [PyData.showableAll, Bool.and_eq_true] at ss
    have r : FitAll (wts ds) k (ds.drop i) := FitAll.drop i ⟨Nat.le_refl _, Nat.le_trans (Nat.le_max_right _ _) kk, ss.2⟩
    exact r.mono (by omega) (Nat.le_refl _)
theorem FitAll.mem {n k : Nat} {d : PyData} : ∀ {ds : List PyData}, FitAll n k ds → d ∈ ds → Fit n k d
  | e :: ds, a, h => by
    have w := a.w
    have kk := a.k
    have ss := a.s
    simp only [wts] at w
    simp only [PyData.depthAll] at kk
    simp only [PyData.showableAll, Bool.and_eq_true] at ss
    rcases List.mem_cons.mp h with rfl | h
    · exact ⟨by omega, Nat.le_trans (Nat.le_max_left _ _) kk, ss.1⟩
    · exact FitAll.mem (ds := ds) ⟨by omega, Nat.le_trans (Nat.le_max_right _ _) kk, ss.2⟩ h
theorem Fit.all {n k : Nat} {ds : List PyData} (h : Fit n k (.tuple ds)) : FitAll n k ds ∧ PyData.depthAll ds + 1 ≤ k := by
  have w := h.w
  have kk := h.k
  have ss := h.s
  simp only [wt] at w
  simp only [PyData.depth] at kk
  simp only [PyData.showable] at ss
  exact ⟨⟨by omega, by omega, ss⟩, kk⟩
theorem fit_int {i : Int} {n : Nat} (h : i.natAbs < 10 ^ 41) (hn : 42 ≤ n) {k : Nat} : Fit n k (.int i) := by
  have e := int_text_length_le10 (k := 41) (by decide) h
  have l : wt (.int i) = (toString i).length := by simp only [wt, PyData.shown]; exact ofString_length _
  refine ⟨by rw [l]; omega, by simp only [PyData.depth]; exact Nat.zero_le _, ?_⟩
  simp only [PyData.showable, decide_eq_true_eq]
  have h2 : i.natAbs < 2 ^ 1920 := Nat.lt_trans h (by decide +kernel)
  by_cases z : i.natAbs = 0
  · rw [z]; decide
  · exact (Nat.log2_lt z).mpr h2
theorem fit_non {n k : Nat} (h : 5 ≤ n) : Fit n k .none := ⟨by simp only [wt]; omega, by simp only [PyData.depth]; exact Nat.zero_le _, by simp only [PyData.showable]⟩
theorem fit_bl {n k : Nat} {b : Bool} (h : 5 ≤ n) : Fit n k (.bool b) := ⟨by simp only [wt]; omega, by simp only [PyData.depth]; exact Nat.zero_le _, by simp only [PyData.showable]⟩
theorem fit_dic {n k : Nat} (h : 2 ≤ n) (hk : 1 ≤ k) : Fit n k (.dict []) := ⟨by simp only [wt]; omega, by simp only [PyData.depth, PyData.depthKv]; omega, by simp only [PyData.showable, PyData.showableKv]⟩
theorem fit_str {n k m : Nat} {x : Str} (e : (PyData.str x).shown.length ≤ m) (h : m ≤ n) : Fit n k (.str x) := ⟨by simp only [wt]; omega, by simp only [PyData.depth]; exact Nat.zero_le _, by simp only [PyData.showable]⟩
theorem fit_mach {l n : Nat} {md : PyData} (h : IsMach l n md) (hl : l ≤ 4) (hn : n ≤ 400) : Fit (188 * n + 60) 3 md := by
  obtain ⟨rs, bs, rfl, h1, h2, h3⟩ := h
  have row : ∀ xs : List PyData, (∀ x ∈ xs, x = .none ∨ ∃ i : Int, x = .int i ∧ 0 ≤ i ∧ i < n) → FitAll (44 * xs.length) 0 xs := by
    intro xs
    induction xs with
    | nil => intro _; exact FitAll.nil
    | cons x xs ih =>
      intro hx
      have a : Fit 42 0 x := by
        rcases hx x List.mem_cons_self with rfl | ⟨i, rfl, i0, i1⟩
        · exact fit_non (by decide)
        · exact fit_int (by have : i.natAbs < 400 := by omega
                            omega) (by decide)
      exact (FitAll.cons a (ih fun y hy => hx y (List.mem_cons_of_mem _ hy))).mono (by rw [List.length_cons]; omega) (Nat.le_refl _)
  have rows : ∀ rs : List PyData, (∀ r ∈ rs, IsRow l n r) → FitAll (181 * rs.length) 1 rs := by
    intro rs
    induction rs with
    | nil => intro _; exact FitAll.nil
    | cons r rs ih =>
      intro hr
      obtain ⟨xs, rfl, x1, x2⟩ := hr r List.mem_cons_self
      have a := Fit.tup (row xs x2)
      exact (FitAll.cons a (ih fun y hy => hr y (List.mem_cons_of_mem _ hy))).mono (by rw [List.length_cons, x1]; omega) (Nat.le_refl _)
  have bools : ∀ bs : List Bool, FitAll (7 * bs.length) 1 (bs.map PyData.bool) := by
    intro bs
    induction bs with
    | nil => exact FitAll.nil
    | cons b bs ih => exact (FitAll.cons (n := 5) (fit_bl (by decide)) ih).mono (by rw [List.length_cons]; omega) (Nat.le_refl _)
  have r1 := rows rs h3
  rw [h1] at r1
  have r2 := bools bs
  rw [h2] at r2
  have il : (l : Int).natAbs < 10 ^ 41 := Nat.lt_of_lt_of_le (show (l : Int).natAbs < 5 by omega) (by decide +kernel)
  exact (Fit.tup (FitAll.cons (fit_int (n := 42) il (by decide)) (FitAll.cons (Fit.tup r1) (FitAll.cons (Fit.tup r2) FitAll.nil)))).mono (by omega) (Nat.le_refl _)

/-! ### slices and sums of tuples, one way each -/
def rSlD : V → Option Int → Option Int → Hp → VK → Prop := fun x lo hi H Q => ∃ (a : Addr) (xs : List V), x = .ref a ∧ H a = some (.tup xs) ∧ ∀ (b : Addr) (G : Hp), Same H G → G b = some (.tup (cutV xs lo hi)) → Q (.ref b) G
theorem cut_whole {xs : List V} {lo hi : Option Int} (h : HT.sIx xs.length 0 lo = 0 ∧ HT.sIx xs.length xs.length hi = xs.length) : cutV xs lo hi = xs := by
  unfold cutV
  rw [h.1, h.2, List.drop_zero, Nat.sub_zero, List.take_length]
theorem sl_tupD {X : Cx} : SlR X rSlD := by
  intro pins s σ H x v vl vu lo hi sl Q I rx hs pl pu h
  obtain ⟨a, xs, rfl, ha, q⟩ := h
  exact sl_tupA pins s σ H _ v vl vu lo hi sl Q I rx hs pl pu ⟨a, xs, rfl, .inl (.inl ha), fun hw => q a H (Same.refl H) (by rw [cut_whole hw]; exact ha), fun _ p np => q p _ (same_new np _) upd_same⟩
def rCatD : R2 := fun x y H Q => ∃ (a b : Addr) (xs ys : List V), x = .ref a ∧ y = .ref b ∧ H a = some (.tup xs) ∧ H b = some (.tup ys) ∧ xs.length + ys.length ≤ sizeLine ∧ ∀ (p : Addr) (G : Hp), Same H G → G p = some (.tup (xs ++ ys)) → Q (.ref p) G
theorem op_catD {X : Cx} : OpR X (binaryOp .Add) rCatD := by
  intro pins s σ H x y v u Q I rx ry h
  obtain ⟨a, b, xs, ys, rfl, rfl, ha, hb, hz, q⟩ := h
  refine op_catA pins s σ H _ _ v u Q I rx ry ⟨a, b, xs, ys, rfl, rfl, .inl (.inl ha), .inl (.inl hb), hz, fun e => ?_, fun _ e => ?_, fun _ _ p np => q p _ (same_new np _) upd_same⟩
  · subst e; exact q b H (Same.refl H) hb
  · subst e; exact q a H (Same.refl H) (by rw [List.append_nil]; exact ha)
theorem cut_dt {K : PySem.W.Frag} {H : Hp} {vs : List V} {ds : List PyData} (lo hi : Option Int) (h : DtAll K H vs ds) : ∃ es, DtAll K H (cutV vs lo hi) es ∧ ∀ n k, FitAll n k ds → FitAll n k es :=
  ⟨_, (h.drop _).take _, fun _ _ f => (f.drop _).take _⟩
theorem Deck.tup {H : Hp} {d c b : Addr} {m : Nat} {xs : List V} (D : Deck H d c m) (h : H b = some (.tup xs)) : Hd d c H b = some (.tup xs) := by
  obtain ⟨L, n, h1, h2, _⟩ := D.ex
  exact hd_of h (ne_of h h1 fun z => nomatch z) (ne_of h h2 fun z => nomatch z)

/-- where the top has left a def -/
structure DF (K : PySem.W.Frag) (x : Str) (st : Stmt) (f : Addr) (fd : FuncData) : Prop where
  ns : PySem.W.nsIn K mainGlobals x = some (some (.ref f))
  fn : Fun K x x st f fd
theorem df {K : PySem.W.Frag} {x : Str} {st : Stmt} {f : Addr} {oc : Value} {od an : Option Addr} {osl : Array (Option Value)} {kV doc pm cdv ct : Value} (a : PySem.W.nsIn K mainGlobals x = some (some (.ref f)))
    (l : K.lookup f = some ⟨oc, od, .func (PySem.W.fnOf x x (defArgs st) (defBody st) (defScope st) .none kV doc pm an cdv ct), osl⟩) (c : PySem.W.codeIn K cdv x = true) (k : PySem.W.keepIn K (.ref f) = true) :
    DF K x st f (PySem.W.fnOf x x (defArgs st) (defBody st) (defScope st) .none kV doc pm an cdv ct) := ⟨a, fun_mk l c k⟩
/-- the names that the deck's defs use -/
structure TxC (mg : Str → Option Value) : Prop where
  int : mg "int" = none
  tuple : mg "tuple" = none
  len : mg "len" = none
  abs : mg "abs" = none
  range : mg "range" = none
end KC

/-! Own layer: zip of two or three, enumerate, over lists, tuples and texts in any mix; what is walked stands still. -/
namespace GZ
open PySem PySem.Spec PyProof.Rows L2

/-- the kinds of what is walked -/
inductive Kd where
  | lst
  | tup
  | str
def sgs (z : Str) : List V := z.cps.toList.map fun c => V.str ⟨#[c]⟩
/-- v is a list, a tuple, a text of the items xs -/
def Src (K : PySem.W.Frag) (H : Hp) : Kd → V → List V → Prop
  | .lst, v, xs => ∃ a, v = .ref a ∧ SqL K H a xs
  | .tup, v, xs => ∃ a, v = .ref a ∧ SqT K H a xs
  | .str, v, xs => ∃ z, v = .str z ∧ xs = sgs z
/-- the iterator at it, ahead of the item i -/
def StI (h : Heap) : Kd → V → Addr → Nat → Prop
  | .lst, v, it, i => ∃ a, v = .ref a ∧ h.IsListIter it a i
  | .tup, v, it, i => ∃ a, v = .ref a ∧ h.IsTupleIter it a i
  | .str, v, it, i => ∃ z t, v = .str z ∧ h.IsStrIter it (strIterType z) z t i
theorem StI.keep {h h' : Heap} {k : Kd} {v : V} {it : Addr} {i : Nat} (st : StI h k v it i) (q : ∀ o, h.get? it = some o → h'.get? it = some o) : StI h' k v it i := by
  cases k with
  | lst => obtain ⟨a, e, s⟩ := st; exact ⟨a, e, s.at q⟩
  | tup => obtain ⟨a, e, s⟩ := st; exact ⟨a, e, s.at q⟩
  | str => obtain ⟨z, t, e, o, ho, r⟩ := st; exact ⟨z, t, e, o, q o ho, r⟩
theorem StI.obj {h : Heap} {k : Kd} {v : V} {it : Addr} {i : Nat} (st : StI h k v it i) : ∃ o, h.get? it = some o ∧ ∀ v, o.data ≠ .cell v := by
  cases k with
  | lst => obtain ⟨a, e, o, ho, _, d⟩ := st; exact ⟨o, ho, fun v z => by rw [d] at z; cases z⟩
  | tup => obtain ⟨a, e, o, ho, _, d⟩ := st; exact ⟨o, ho, fun v z => by rw [d] at z; cases z⟩
  | str => obtain ⟨z, t, e, o, ho, _, d⟩ := st; exact ⟨o, ho, fun v z => by rw [d] at z; cases z⟩
theorem vals_back {xs : List V} {us : List Value} (r : Vals xs us) {j : Nat} {u : Value} (h : us[j]? = some u) : ∃ y, xs[j]? = some y ∧ RelV y u := by
  have l := r.length
  have jl : j < us.length := (List.getElem?_eq_some_iff.mp h).1
  obtain ⟨y, hy⟩ : ∃ y, xs[j]? = some y := ⟨_, List.getElem?_eq_getElem (by omega)⟩
  obtain ⟨u', h1, h2⟩ := r.get hy
  rw [h] at h1
  cases h1
  exact ⟨y, hy, h2⟩
section
variable {X : Cx} {pins : List (Addr × Obj)} {σ : L2.St} {H : Hp} {s : Shared}
/-- what its iterator draws -/
theorem src_draws (I : Inv X pins σ H s) (hc : X.calm = true) {k : Kd} {v : V} {xs : List V} {it : Addr} {i : Nat} (h : Src X.K H k v xs) (st : StI s.heap k v it i) (ne : ∀ a, v = .ref a → a ≠ it) :
    ∃ (fp : List Addr) (P : Nat → Value → Prop) (St : Nat → Heap → Prop), Draws X.prog X.w X.A.in1 it fp xs.length P St ∧ St i s.heap ∧ it ∈ fp ∧ (∀ b ∈ fp, b = it ∨ v = .ref b) ∧
      (∀ j x, P j x → ∃ y, xs[j]? = some y ∧ RelV y x) ∧ ∀ j h', St j h' → StI h' k v it j := by
  have hh : X.A.in1.handled = none := I.ok.hd hc
  cases k with
  | lst =>
    obtain ⟨a, rfl, hq⟩ := h
    obtain ⟨a', e, st⟩ := st
    cases e
    obtain ⟨its, rv, p, hz⟩ := I.list hq
    have D := Draws.list (prog := X.prog) (w := X.w) (A := X.A.in1) hh it a (ne a rfl) its.toArray
    rw [show its.toArray.size = xs.length by rw [List.size_toArray, rv.length]] at D
    exact ⟨_, _, _, D, ⟨st, p.isList⟩, List.mem_cons_self, fun b hb => by simpa [eq_comm] using hb, fun j x hx => vals_back rv (by simpa using hx), fun j h' q => ⟨a, rfl, q.1⟩⟩
  | tup =>
    obtain ⟨a, rfl, hq⟩ := h
    obtain ⟨a', e, st⟩ := st
    cases e
    obtain ⟨its, rv, p, hz⟩ := I.tuple hq
    have D := Draws.tuple (prog := X.prog) (w := X.w) (A := X.A.in1) hh it a (ne a rfl) its.toArray
    rw [show its.toArray.size = xs.length by rw [List.size_toArray, rv.length]] at D
    exact ⟨_, _, _, D, ⟨st, p⟩, List.mem_cons_self, fun b hb => by simpa [eq_comm] using hb, fun j x hx => vals_back rv (by simpa using hx), fun j h' q => ⟨a, rfl, q.1⟩⟩
  | str =>
    obtain ⟨z, rfl, rfl⟩ := h
    obtain ⟨z', t, e, st⟩ := st
    cases e
    have D := Draws.text (prog := X.prog) (w := X.w) (A := X.A.in1) hh it z t
    rw [show z.cps.size = (sgs z).length by unfold sgs; rw [List.length_map, Array.length_toList]] at D
    refine ⟨_, _, _, D, st, List.mem_cons_self, fun b hb => .inl (by simpa using hb), ?_, fun j h' q => ⟨z, t, rfl, q⟩⟩
    rintro j x ⟨c, u, h1, rfl⟩
    refine ⟨.str ⟨#[c]⟩, ?_, ⟨u, rfl⟩⟩
    unfold sgs
    rw [List.getElem?_map, Array.getElem?_toList, h1]
    rfl
/-- how its iterator begins -/
theorem src_begins (I : Inv X pins σ H s) {k : Kd} {v : V} {u : Value} {xs : List V} (h : Src X.K H k v xs) (r : RelV v u) :
    ∃ (o : Obj) (Hb : Heap → Prop), Begins u o Hb ∧ Hb s.heap ∧ (∀ (it : Addr) (h' : Heap), h'.get? it = some o → StI h' k v it 0) ∧ ∀ a, v = .ref a → a < s.heap.objs.size := by
  cases k with
  | lst =>
    obtain ⟨a, rfl, hq⟩ := h
    cases r
    obtain ⟨its, rv, p, hz⟩ := I.list hq
    exact ⟨_, _, begins_list a its.toArray, p.isList, fun it h' e => ⟨a, rfl, _, e, rfl, rfl⟩, fun b e => by cases e; exact p.lt⟩
  | tup =>
    obtain ⟨a, rfl, hq⟩ := h
    cases r
    obtain ⟨its, rv, p, hz⟩ := I.tuple hq
    have la : a < s.heap.objs.size := by
      obtain ⟨o, ho, _⟩ := id p
      exact Heap.lt_size ho
    exact ⟨_, _, begins_tuple a its.toArray, p, fun it h' e => ⟨a, rfl, _, e, rfl, rfl⟩, fun b e => by cases e; exact la⟩
  | str =>
    obtain ⟨z, rfl, rfl⟩ := h
    obtain ⟨t, rfl⟩ := r
    exact ⟨_, _, begins_text z t, trivial, fun it h' e => ⟨z, t, rfl, _, e, rfl, rfl⟩, fun b e => nomatch e⟩
end

theorem out5 {n a : Nat} (h : a < n) : a ∉ [n + 4, n + 2, n + 3, n, n + 1] := by
  simp only [List.mem_cons, List.not_mem_nil, or_false]
  omega
theorem le5 {n a : Nat} (h : a ∈ [n + 4, n + 2, n + 3, n, n + 1]) : n ≤ a := by
  simp only [List.mem_cons, List.not_mem_nil, or_false] at h
  omega
theorem out6 {n a : Nat} (h : a < n) : a ∉ [n + 5, n + 3, n + 4, n, n + 1, n + 2] := by
  simp only [List.mem_cons, List.not_mem_nil, or_false]
  omega
theorem le6 {n a : Nat} (h : a ∈ [n + 5, n + 3, n + 4, n, n + 1, n + 2]) : n ≤ a := by
  simp only [List.mem_cons, List.not_mem_nil, or_false] at h
  omega
theorem out2 {n a : Nat} (h : a < n) : a ∉ [n + 1, n] := by
  simp only [List.mem_cons, List.not_mem_nil, or_false]
  omega
theorem le2 {n a : Nat} (h : a ∈ [n + 1, n]) : n ≤ a := by
  simp only [List.mem_cons, List.not_mem_nil, or_false] at h
  omega
/-- n turns while G stands; turn i gives a new tuple of what stands in row i -/
def ItN (n : Nat) (G : Hp → Prop) (row : Nat → Option (List V)) : It :=
  ⟨fun i H => G H ∧ i < n, fun i H v H' => ∃ T xs, v = .ref T ∧ H T = none ∧ H' = upd H T (.tup xs) ∧ row i = some xs, fun i H => G H ∧ i = n⟩
theorem walk_N {n : Nat} {G : Hp → Prop} {row : Nat → Option (List V)} : Walk (ItN n G row) n G (fun i H v H' => ∃ T xs, v = .ref T ∧ H T = none ∧ H' = upd H T (.tup xs) ∧ row i = some xs) :=
  ⟨fun _ _ hi q => ⟨q, hi⟩, fun _ q => ⟨q, rfl⟩, fun _ _ _ _ _ _ y => y⟩
/-- such an iterator by the library's walks of tuples -/
theorem turn_N {P : Program} {w : World} {K : PySem.W.Frag} {elts : List Expr} {kk : Nat} {tpos : Pos} {n : Nat} {G : Hp → Prop} {row : Nat → Option (List V)} {fp : List Addr} {z : Addr} {tn : Nat → Heap → Prop} (mem : z ∈ fp)
    (obj : ∀ i h, tn i h → ∀ b ∈ fp, ∃ o, h.get? b = some o ∧ ∀ v, o.data ≠ .cell v) (keep : ∀ i h h', tn i h → (∀ b ∈ fp, ∀ o, h.get? b = some o → h'.get? b = some o) → tn i h')
    (self : ∀ (A : Around) (i : Nat) (s : Shared) (Q : Value → Shared → Prop) (E : Value → Shared → Prop), tn i s.heap → Q (.ref z) s → wpAny (model P w) A (pyIter (.ref z)) Q E s)
    (W : ∀ (X : Cx), X.prog = P → X.w = w → X.K = K → X.calm = true → ∀ (i : Nat) (pins : List (Addr × Obj)) (s : Shared) (σ : L2.St) (H : Hp), Inv X pins σ H s → G H → tn i s.heap →
      ∃ (fpW wr : List Addr) (Pt : Nat → Array Value → Prop) (St : Nat → Heap → Prop) (Mid : Nat → Addr → Heap → Prop), WalksT P w X.A z fpW wr n Pt St Mid ∧ St i s.heap ∧ (∀ b ∈ wr, b ∈ fp) ∧ (∀ j h, St j h → tn j h) ∧
        ∀ j vals, Pt j vals → ∃ xs, row j = some xs ∧ Vals xs vals.toList ∧ xs.length ≤ sizeLine) : Turn P w K (.Tuple elts kk tpos) (ItN n G row) fp z tn where
  mem := mem
  obj := obj
  keep := keep
  self := self
  item := by
    intro X hP hw hK hc i pins s σ H E I hf st hg
    obtain ⟨hG, hi⟩ := hg
    obtain ⟨fpW, wr, Pt, St, Mid, Wk, st0, hwr, hst, hpt⟩ := W X hP hw hK hc i pins s σ H I hG st
    subst hP hw hK
    refine Wk.item i s _ _ hi st0 fun T vals h' tk hP hT hTup mid hk => ⟨_, rfl, Wk.go elts kk tpos i T { s with heap := h', toks := tk } _ _ mid fun h'' st'' hk'' => ?_⟩
    obtain ⟨xs, hr, hv, hl⟩ := hpt i vals hP
    have hap := Wk.apart i T h' mid
    obtain ⟨o, ho, hcl, nn, hd⟩ := hTup
    have new : ObjOk X.prog X.w (upd H T (.tup xs)) h'' T (.tup xs) := ⟨hl, vals.toList, hv, ⟨o, hk'' T o hap ho, hcl, nn, by simpa using hd⟩⟩
    have I1 : Inv X pins σ (upd H T (.tup xs)) { s with heap := h'', toks := tk } :=
      I.turnedNew (ch := fp) (fun b ob hb q => hk'' b ob (fun z => hb (hwr b z)) (hk b ob (fun z => hb (hwr b z)) q)) hf hT new
    refine ⟨.ref T, _, I1, rfl, ⟨T, xs, rfl, I.hok.fresh hT, rfl, hr⟩, hst _ _ st'', fun b hb => ?_⟩
    obtain ⟨ob, hob, _⟩ := obj i s.heap st b hb
    have hlt : b < s.heap.objs.size := Heap.lt_size hob
    rw [upd_ne (Nat.ne_of_lt (Nat.lt_of_lt_of_le hlt hT))]
    exact (hf b hb).1
  done := by
    intro X hP hw hK hc i pins s σ H E I hf st hg
    obtain ⟨hG, hi⟩ := hg
    obtain ⟨fpW, wr, Pt, St, Mid, Wk, st0, hwr, hst, hpt⟩ := W X hP hw hK hc i pins s σ H I hG st
    subst hP hw hK hi
    exact Wk.done s _ _ st0 fun h' tk hk => ⟨rfl, I.turnedL (t' := tk) (ch := fp) (fun b ob hb q => hk b ob (fun z => hb (hwr b z)) q) hf⟩

/-! ### zip of two -/
def row2 (xs ys : List V) (i : Nat) : Option (List V) := match xs[i]?, ys[i]? with
  | some x, some y => some [x, y]
  | _, _ => none
theorem row2_of {xs ys : List V} {i : Nat} {r : List V} (h : row2 xs ys i = some r) : ∃ x y, xs[i]? = some x ∧ ys[i]? = some y ∧ r = [x, y] := by
  unfold row2 at h
  split at h
  · rename_i x y h1 h2
    cases h
    exact ⟨x, y, h1, h2, rfl⟩
  · cases h
def It2 (K : PySem.W.Frag) (k1 : Kd) (v1 : V) (xs : List V) (k2 : Kd) (v2 : V) (ys : List V) : It := ItN (min xs.length ys.length) (fun H => Src K H k1 v1 xs ∧ Src K H k2 v2 ys) (row2 xs ys)
theorem turn_z2 {P : Program} {w : World} {K : PySem.W.Frag} {elts : List Expr} {kk : Nat} {tpos : Pos} {k1 k2 : Kd} {v1 v2 : V} {xs ys : List V} {z TI TO i1 i2 : Addr} (nd : [z, TI, TO, i1, i2].Nodup) (a1 : ∀ a, v1 = .ref a → a ∉ [z, TI, TO, i1, i2]) (a2 : ∀ a, v2 = .ref a → a ∉ [z, TI, TO, i1, i2]) :
    Turn P w K (.Tuple elts kk tpos) (It2 K k1 v1 xs k2 v2 ys) [z, TI, TO, i1, i2] z (fun i h => IsZip h z TI TO .none ∧ IsTupOf2 h TI (.ref i1) (.ref i2) ∧ (∃ x y, IsTupOf2 h TO x y) ∧ StI h k1 v1 i1 i ∧ StI h k2 v2 i2 i) := by
  refine turn_N (by simp) (fun i h st c hc => ?_) (fun i h h' st k => ?_) (fun A i s Q E st q => wpAny_pyIter_zip st.1 q) (fun X hP hw hK hc i pins s σ H I hG st => ?_)
  · obtain ⟨hz, hTI, ⟨x, y, hTO⟩, s1, s2⟩ := st
    have e' : c = z ∨ c = TI ∨ c = TO ∨ c = i1 ∨ c = i2 := by simpa using hc
    rcases e' with q | q | q | q | q
    · rw [q]; exact ⟨_, hz, fun v q => nomatch q⟩
    · rw [q]; exact ⟨_, hTI, fun v q => nomatch q⟩
    · rw [q]; exact ⟨_, hTO, fun v q => nomatch q⟩
    · rw [q]; exact s1.obj
    · rw [q]; exact s2.obj
  · obtain ⟨hz, hTI, ⟨x, y, hTO⟩, s1, s2⟩ := st
    exact ⟨k z (by simp) _ hz, k TI (by simp) _ hTI, ⟨x, y, k TO (by simp) _ hTO⟩, s1.keep fun o q => k i1 (by simp) o q, s2.keep fun o q => k i2 (by simp) o q⟩
  · subst hP hw hK
    obtain ⟨hz, hTI, ⟨x, y, hTO⟩, s1, s2⟩ := st
    simp only [List.nodup_cons, List.mem_cons, List.not_mem_nil, or_false, not_or, not_false_eq_true, List.nodup_nil, and_true] at nd
    simp only [List.mem_cons, List.not_mem_nil, or_false, not_or] at a1 a2
    obtain ⟨⟨n1, n2, n3, n4⟩, ⟨n5, n6, n7⟩, ⟨n8, n9⟩, n10⟩ := nd
    obtain ⟨f1, P1, S1, D1, t1, m1, g1, p1, q1⟩ := src_draws I hc hG.1 s1 (fun a e => (a1 a e).2.2.2.1)
    obtain ⟨f2, P2, S2, D2, t2, m2, g2, p2, q2⟩ := src_draws I hc hG.2 s2 (fun a e => (a2 a e).2.2.2.2)
    have out1 : ∀ b, b ≠ i1 → (b = z ∨ b = TO ∨ b = i2) → b ∉ f1 := fun b ne hb hm => by
      rcases g1 b hm with e | e
      · exact ne e
      · rcases hb with rfl | rfl | rfl
        · exact (a1 _ e).1 rfl
        · exact (a1 _ e).2.2.1 rfl
        · exact (a1 _ e).2.2.2.2 rfl
    have out2 : ∀ b, b ≠ i2 → (b = z ∨ b = TO ∨ b = i1) → b ∉ f2 := fun b ne hb hm => by
      rcases g2 b hm with e | e
      · exact ne e
      · rcases hb with rfl | rfl | rfl
        · exact (a2 _ e).1 rfl
        · exact (a2 _ e).2.2.1 rfl
        · exact (a2 _ e).2.2.2.1 rfl
    have S : ZipSep2 z TI TO i1 i2 f1 f2 := ⟨Ne.symm n1, Ne.symm n2, n5, n6, m1, out1 z n3 (.inl rfl), out1 TO n8 (.inr (.inl rfl)), n7, m2, out2 z n4 (.inl rfl), out2 TO n9 (.inr (.inl rfl)), out2 i1 n10 (.inr (.inr rfl)), out1 i2 (Ne.symm n10) (.inr (.inr rfl))⟩
    refine ⟨_, _, _, _, _, WalksT.zipD2 S D1 D2, ⟨hz, hTI, ⟨x, y, hTO⟩, t1, t2⟩, fun b hb => ?_, fun j h st => ⟨st.1, st.2.1, st.2.2.1, q1 _ _ st.2.2.2.1, q2 _ _ st.2.2.2.2⟩, ?_⟩
    · simp only [List.mem_cons, List.not_mem_nil, or_false] at hb ⊢
      rcases hb with e | e | e | e
      · exact .inl e
      · exact .inr (.inr (.inl e))
      · exact .inr (.inr (.inr (.inl e)))
      · exact .inr (.inr (.inr (.inr e)))
    · rintro j vals ⟨u1, u2, h1, h2, rfl⟩
      obtain ⟨y1, e1, r1⟩ := p1 j u1 h1
      obtain ⟨y2, e2, r2⟩ := p2 j u2 h2
      exact ⟨[y1, y2], by unfold row2; rw [e1, e2], .cons r1 (.cons r2 .nil), by show 2 ≤ 2 ^ 24; decide⟩
def iZ2 (K : PySem.W.Frag) (ta : TA) : TI := fun σ H R => ta σ H fun vs H1 => ∃ (v1 v2 : V) (k1 k2 : Kd) (xs ys : List V), vs = [v1, v2] ∧ Src K H1 k1 v1 xs ∧ Src K H1 k2 v2 ys ∧ R (It2 K k1 v1 xs k2 v2 ys) H1
theorem fresh_fp {X : Cx} {pins : List (Addr × Obj)} {σ : L2.St} {H : Hp} {s : Shared} (I : Inv X pins σ H s) {b : Addr} (h : s.heap.objs.size ≤ b) : FpOk X pins H b := I.fpOk h (I.hok.fresh h)
theorem pi_z2 {X : Cx} {e e2 : Expr} {ta : TA} {p pos tpos : Pos} {elts : List Expr} {kk : Nat} (hg : Gl X "zip") (hm : X.mg "zip" = none) (ha : PA X [e, e2] ta)
    (hs : starEach [e, e2] X.env = (false, eval e X.env) :: starEach [e2] X.env := by rfl) (hpl : (backTo pos (starEach [e2] X.env)).any (·.1) = false := by rfl) :
    PI X (.Tuple elts kk tpos) (.Call (.Name "zip" p) [e, e2] [] pos) (iZ2 X.K ta) := by
  refine ⟨fun pins s σ H R I h => ?_⟩
  refine Call_ (ld_blt I hg hm PyProof.Rows.boot_zip (PyProof.Rows.callWith_type1 (thn (ha.run pos pins s σ H _ I h) fun us s1 ⟨vs, H1, I1, r1, q1⟩ => ?_) hs hpl))
  obtain ⟨v1, v2, k1, k2, xs, ys, ex, hx, hy, q⟩ := q1
  subst ex
  cases r1 with
  | cons r rr =>
    cases rr with
    | cons r' rr =>
      cases rr
      obtain ⟨o1, B1, b1, c1, d1, l1⟩ := src_begins I1 hx r
      obtain ⟨o2, B2, b2, c2, d2, l2⟩ := src_begins I1 hy r'
      refine zip_begins2 b1 b2 c1 c2 fun h' hz hTI hTO g1 g2 hsz hk => wpAny_pyIter_zip hz ?_
      have I2 : Inv X pins σ H1 { s1 with heap := h' } := I1.kept (t' := s1.toks) hk
      have nd : [s1.heap.objs.size + 4, s1.heap.objs.size + 2, s1.heap.objs.size + 3, s1.heap.objs.size, s1.heap.objs.size + 1].Nodup := by simp
      refine ⟨s1.heap.objs.size + 4, [s1.heap.objs.size + 4, s1.heap.objs.size + 2, s1.heap.objs.size + 3, s1.heap.objs.size, s1.heap.objs.size + 1], _, _, H1, rfl, I2, turn_z2 nd (fun a e => out5 (l1 a e)) (fun a e => out5 (l2 a e)), ⟨hz, hTI, ⟨_, _, hTO⟩, d1 _ _ g1, d2 _ _ g2⟩, fun c hcm => fresh_fp I1 (le5 hcm), q⟩

/-! ### zip of three -/
def row3 (xs ys zs : List V) (i : Nat) : Option (List V) := match xs[i]?, ys[i]?, zs[i]? with
  | some x, some y, some z => some [x, y, z]
  | _, _, _ => none
theorem row3_of {xs ys zs : List V} {i : Nat} {r : List V} (h : row3 xs ys zs i = some r) : ∃ x y z, xs[i]? = some x ∧ ys[i]? = some y ∧ zs[i]? = some z ∧ r = [x, y, z] := by
  unfold row3 at h
  split at h
  · rename_i x y z h1 h2 h3
    cases h
    exact ⟨x, y, z, h1, h2, h3, rfl⟩
  · cases h
def It3 (K : PySem.W.Frag) (k1 : Kd) (v1 : V) (xs : List V) (k2 : Kd) (v2 : V) (ys : List V) (k3 : Kd) (v3 : V) (zs : List V) : It :=
  ItN (min (min xs.length ys.length) zs.length) (fun H => Src K H k1 v1 xs ∧ Src K H k2 v2 ys ∧ Src K H k3 v3 zs) (row3 xs ys zs)
theorem turn_z3 {P : Program} {w : World} {K : PySem.W.Frag} {elts : List Expr} {kk : Nat} {tpos : Pos} {k1 k2 k3 : Kd} {v1 v2 v3 : V} {xs ys zs : List V} {z TI TO i1 i2 i3 : Addr} (nd : [z, TI, TO, i1, i2, i3].Nodup) (a1 : ∀ a, v1 = .ref a → a ∉ [z, TI, TO, i1, i2, i3])
    (a2 : ∀ a, v2 = .ref a → a ∉ [z, TI, TO, i1, i2, i3]) (a3 : ∀ a, v3 = .ref a → a ∉ [z, TI, TO, i1, i2, i3]) :
    Turn P w K (.Tuple elts kk tpos) (It3 K k1 v1 xs k2 v2 ys k3 v3 zs) [z, TI, TO, i1, i2, i3] z (fun i h => IsZip h z TI TO .none ∧ IsTupOf3 h TI (.ref i1) (.ref i2) (.ref i3) ∧ (∃ x y u, IsTupOf3 h TO x y u) ∧ StI h k1 v1 i1 i ∧ StI h k2 v2 i2 i ∧ StI h k3 v3 i3 i) := by
  refine turn_N (by simp) (fun i h st c hc => ?_) (fun i h h' st k => ?_) (fun A i s Q E st q => wpAny_pyIter_zip st.1 q) (fun X hP hw hK hc i pins s σ H I hG st => ?_)
  · obtain ⟨hz, hTI, ⟨x, y, u, hTO⟩, s1, s2, s3⟩ := st
    have e' : c = z ∨ c = TI ∨ c = TO ∨ c = i1 ∨ c = i2 ∨ c = i3 := by simpa using hc
    rcases e' with q | q | q | q | q | q
    · rw [q]; exact ⟨_, hz, fun v q => nomatch q⟩
    · rw [q]; exact ⟨_, hTI, fun v q => nomatch q⟩
    · rw [q]; exact ⟨_, hTO, fun v q => nomatch q⟩
    · rw [q]; exact s1.obj
    · rw [q]; exact s2.obj
    · rw [q]; exact s3.obj
  · obtain ⟨hz, hTI, ⟨x, y, u, hTO⟩, s1, s2, s3⟩ := st
    exact ⟨k z (by simp) _ hz, k TI (by simp) _ hTI, ⟨x, y, u, k TO (by simp) _ hTO⟩, s1.keep fun o q => k i1 (by simp) o q, s2.keep fun o q => k i2 (by simp) o q, s3.keep fun o q => k i3 (by simp) o q⟩
  · subst hP hw hK
    obtain ⟨hz, hTI, ⟨x, y, u, hTO⟩, s1, s2, s3⟩ := st
    simp only [List.nodup_cons, List.mem_cons, List.not_mem_nil, or_false, not_or, not_false_eq_true, List.nodup_nil, and_true] at nd
    simp only [List.mem_cons, List.not_mem_nil, or_false, not_or] at a1 a2 a3
    obtain ⟨⟨n1, n2, n3, n4, n5⟩, ⟨n6, n7, n8, n9⟩, ⟨n10, n11, n12⟩, ⟨n13, n14⟩, n15⟩ := nd
    obtain ⟨f1, P1, S1, D1, t1, m1, g1, p1, q1⟩ := src_draws I hc hG.1 s1 (fun a e => (a1 a e).2.2.2.1)
    obtain ⟨f2, P2, S2, D2, t2, m2, g2, p2, q2⟩ := src_draws I hc hG.2.1 s2 (fun a e => (a2 a e).2.2.2.2.1)
    obtain ⟨f3, P3, S3, D3, t3, m3, g3, p3, q3⟩ := src_draws I hc hG.2.2 s3 (fun a e => (a3 a e).2.2.2.2.2)
    have out : ∀ (j b : Addr) (f : List Addr) (v : V), (∀ b ∈ f, b = j ∨ v = .ref b) → (∀ a, v = .ref a → ¬ a = z ∧ ¬ a = TI ∧ ¬ a = TO ∧ ¬ a = i1 ∧ ¬ a = i2 ∧ ¬ a = i3) → b ≠ j → (b = z ∨ b = TO ∨ b = i1 ∨ b = i2 ∨ b = i3) → b ∉ f := fun j b f v g a ne hb hm => by
      rcases g b hm with e | e
      · exact ne e
      · obtain ⟨e1, e2, e3, e4, e5, e6⟩ := a b e
        rcases hb with h | h | h | h | h
        · exact e1 h
        · exact e3 h
        · exact e4 h
        · exact e5 h
        · exact e6 h
    have S : ZipSep3 z TI TO i1 i2 i3 f1 f2 f3 := ⟨Ne.symm n1, Ne.symm n2, n6, n7, m1, out i1 z f1 v1 g1 a1 n3 (by simp), out i1 TO f1 v1 g1 a1 n10 (by simp), n8, m2, out i2 z f2 v2 g2 a2 n4 (by simp), out i2 TO f2 v2 g2 a2 n11 (by simp), n9, m3, out i3 z f3 v3 g3 a3 n5 (by simp), out i3 TO f3 v3 g3 a3 n12 (by simp),
      out i2 i1 f2 v2 g2 a2 n13 (by simp), out i3 i1 f3 v3 g3 a3 n14 (by simp), out i1 i2 f1 v1 g1 a1 (Ne.symm n13) (by simp), out i3 i2 f3 v3 g3 a3 n15 (by simp), out i1 i3 f1 v1 g1 a1 (Ne.symm n14) (by simp), out i2 i3 f2 v2 g2 a2 (Ne.symm n15) (by simp)⟩
    refine ⟨_, _, _, _, _, WalksT.zipD3 S D1 D2 D3, ⟨hz, hTI, ⟨x, y, u, hTO⟩, t1, t2, t3⟩, fun b hb => ?_, fun j h st => ⟨st.1, st.2.1, st.2.2.1, q1 _ _ st.2.2.2.1, q2 _ _ st.2.2.2.2.1, q3 _ _ st.2.2.2.2.2⟩, ?_⟩
    · simp only [List.mem_cons, List.not_mem_nil, or_false] at hb ⊢
      rcases hb with e | e | e | e | e
      · exact .inl e
      · exact .inr (.inr (.inl e))
      · exact .inr (.inr (.inr (.inl e)))
      · exact .inr (.inr (.inr (.inr (.inl e))))
      · exact .inr (.inr (.inr (.inr (.inr e))))
    · rintro j vals ⟨u1, u2, u3, h1, h2, h3, rfl⟩
      obtain ⟨y1, e1, r1⟩ := p1 j u1 h1
      obtain ⟨y2, e2, r2⟩ := p2 j u2 h2
      obtain ⟨y3, e3, r3⟩ := p3 j u3 h3
      exact ⟨[y1, y2, y3], by unfold row3; rw [e1, e2, e3], .cons r1 (.cons r2 (.cons r3 .nil)), by show 3 ≤ 2 ^ 24; decide⟩
def iZ3 (K : PySem.W.Frag) (ta : TA) : TI := fun σ H R => ta σ H fun vs H1 => ∃ (v1 v2 v3 : V) (k1 k2 k3 : Kd) (xs ys zs : List V), vs = [v1, v2, v3] ∧ Src K H1 k1 v1 xs ∧ Src K H1 k2 v2 ys ∧ Src K H1 k3 v3 zs ∧ R (It3 K k1 v1 xs k2 v2 ys k3 v3 zs) H1
theorem pi_z3 {X : Cx} {e e2 e3 : Expr} {ta : TA} {p pos tpos : Pos} {elts : List Expr} {kk : Nat} (hg : Gl X "zip") (hm : X.mg "zip" = none) (ha : PA X [e, e2, e3] ta)
    (hs : starEach [e, e2, e3] X.env = (false, eval e X.env) :: starEach [e2, e3] X.env := by rfl) (hpl : (backTo pos (starEach [e2, e3] X.env)).any (·.1) = false := by rfl) :
    PI X (.Tuple elts kk tpos) (.Call (.Name "zip" p) [e, e2, e3] [] pos) (iZ3 X.K ta) := by
  refine ⟨fun pins s σ H R I h => ?_⟩
  refine Call_ (ld_blt I hg hm PyProof.Rows.boot_zip (PyProof.Rows.callWith_type1 (thn (ha.run pos pins s σ H _ I h) fun us s1 ⟨vs, H1, I1, r1, q1⟩ => ?_) hs hpl))
  obtain ⟨v1, v2, v3, k1, k2, k3, xs, ys, zs, ex, hx, hy, hz0, q⟩ := q1
  subst ex
  cases r1 with
  | cons r rr =>
    cases rr with
    | cons r' rr =>
      cases rr with
      | cons r'' rr =>
        cases rr
        obtain ⟨o1, B1, b1, c1, d1, l1⟩ := src_begins I1 hx r
        obtain ⟨o2, B2, b2, c2, d2, l2⟩ := src_begins I1 hy r'
        obtain ⟨o3, B3, b3, c3, d3, l3⟩ := src_begins I1 hz0 r''
        refine zip_begins3 b1 b2 b3 c1 c2 c3 fun h' hz hTI hTO g1 g2 g3 hsz hk => wpAny_pyIter_zip hz ?_
        have I2 : Inv X pins σ H1 { s1 with heap := h' } := I1.kept (t' := s1.toks) hk
        have nd : [s1.heap.objs.size + 5, s1.heap.objs.size + 3, s1.heap.objs.size + 4, s1.heap.objs.size, s1.heap.objs.size + 1, s1.heap.objs.size + 2].Nodup := by simp
        refine ⟨s1.heap.objs.size + 5, [s1.heap.objs.size + 5, s1.heap.objs.size + 3, s1.heap.objs.size + 4, s1.heap.objs.size, s1.heap.objs.size + 1, s1.heap.objs.size + 2], _, _, H1, rfl, I2, turn_z3 nd (fun a e => out6 (l1 a e)) (fun a e => out6 (l2 a e)) (fun a e => out6 (l3 a e)),
          ⟨hz, hTI, ⟨_, _, _, hTO⟩, d1 _ _ g1, d2 _ _ g2, d3 _ _ g3⟩, fun c hcm => fresh_fp I1 (le6 hcm), q⟩

/-! ### enumerate -/
def rowE (xs : List V) (i : Nat) : Option (List V) := xs[i]?.map fun x => [V.int (i : Nat), x]
theorem rowE_of {xs : List V} {i : Nat} {r : List V} (h : rowE xs i = some r) : ∃ x, xs[i]? = some x ∧ r = [V.int (i : Nat), x] := by
  unfold rowE at h
  cases e : xs[i]? with
  | none => rw [e] at h; cases h
  | some x => rw [e] at h; cases h; exact ⟨x, rfl, rfl⟩
def ItE (K : PySem.W.Frag) (k1 : Kd) (v1 : V) (xs : List V) : It := ItN xs.length (fun H => Src K H k1 v1 xs) (rowE xs)
theorem turn_e {P : Program} {w : World} {K : PySem.W.Frag} {elts : List Expr} {kk : Nat} {tpos : Pos} {k1 : Kd} {v1 : V} {xs : List V} {e it : Addr} (nd : e ≠ it) (a1 : ∀ a, v1 = .ref a → a ∉ [e, it]) :
    Turn P w K (.Tuple elts kk tpos) (ItE K k1 v1 xs) [e, it] e (fun i h => (∃ old, IsEnum h e it (0 + ((i : Nat) : Int)) old) ∧ StI h k1 v1 it i) := by
  refine turn_N (by simp) (fun i h st c hc => ?_) (fun i h h' st k => ?_) (fun A i s Q E st q => let ⟨⟨_, he⟩, _⟩ := st; wpAny_pyIter_enum he q) (fun X hP hw hK hc i pins s σ H I hG st => ?_)
  · obtain ⟨⟨old, he⟩, s1⟩ := st
    have e' : c = e ∨ c = it := by simpa using hc
    rcases e' with q | q
    · rw [q]; exact ⟨_, he, fun v q => nomatch q⟩
    · rw [q]; exact s1.obj
  · obtain ⟨⟨old, he⟩, s1⟩ := st
    exact ⟨⟨old, k e (by simp) _ he⟩, s1.keep fun o q => k it (by simp) o q⟩
  · subst hP hw hK
    obtain ⟨⟨old, he⟩, s1⟩ := st
    simp only [List.mem_cons, List.not_mem_nil, or_false, not_or] at a1
    obtain ⟨f1, P1, S1, D1, t1, m1, g1, p1, q1⟩ := src_draws I hc hG s1 (fun a e => (a1 a e).2)
    have hef : e ∉ f1 := fun hm => by
      rcases g1 e hm with z | z
      · exact nd z
      · exact (a1 _ z).1 rfl
    refine ⟨_, _, _, _, _, WalksT.enumFrom 0 D1 e nd hef m1, ⟨⟨old, he⟩, t1⟩, fun b hb => hb, fun j h st => ⟨st.1, q1 _ _ st.2⟩, ?_⟩
    rintro j vals ⟨t, u1, h1, rfl⟩
    obtain ⟨y1, e1, r1⟩ := p1 j u1 h1
    refine ⟨[.int (j : Nat), y1], by unfold rowE; rw [e1]; rfl, .cons ⟨t, ?_⟩ (.cons r1 .nil), by show 2 ≤ 2 ^ 24; decide⟩
    show Value.int (0 + (j : Int)) t = Value.int (j : Int) t
    rw [Int.zero_add]
set_option maxHeartbeats 4000000 in
theorem meets_enumerate_newB1 {v : Value} {o : Obj} {H : Heap → Prop} (B : Begins v o H) :
    Meets (Builtin.«enumerate.__new__» ⟨[.type "enumerate", v], []⟩) (fun _ R s => H s.heap ∧
      R (.ok (.ret (.ref (s.heap.push o).objs.size))) { s with heap := (s.heap.push o).push { cls := .type "enumerate", data := .fields #[.none, .bool false, .ref s.heap.objs.size, rawInt 0, .none, .none] } }) :=
  .of_wp fun prog w A R s h => by
    obtain ⟨hp, g, d, tk, os⟩ := s; obtain ⟨h1, h⟩ := h
    have hsub := sub_enumerate
    have q1 : ∀ {A' : Around} {E : Value → Shared → Prop} {Q : Value → Shared → Prop}, Q (.ref hp.objs.size) ⟨hp.push o, g, d, tk, os⟩ → wpAny (model prog w) A' (pyIter v) Q E ⟨hp, g, d, tk, os⟩ :=
      fun q => B.iter prog w _ _ ⟨hp, g, d, tk, os⟩ _ h1 q
    wp_walk using q1
    refine wpAny_stack_any fun st => wpAny_pure ?_
    split
    · rename_i c _ _ _ _ _
      cases (c == Value.type "enumerate")
      · wp_walk using q1
        exact ⟨_, rfl, h⟩
      · wp_walk using q1
        exact ⟨_, rfl, h⟩
    · wp_walk using q1
      exact ⟨_, rfl, h⟩
theorem enum_begins1 {prog : Program} {w : World} {A : Around} {E : Value → Shared → Prop} {s : Shared} {v : Value} {o : Obj} {H : Heap → Prop} {Q : Value → Shared → Prop} (B : Begins v o H) (h1 : H s.heap)
    (h : ∀ h', IsEnum h' (s.heap.objs.size + 1) s.heap.objs.size 0 .none → h'.get? s.heap.objs.size = some o → h'.objs.size = s.heap.objs.size + 2 →
      (∀ b o, s.heap.get? b = some o → h'.get? b = some o) → Q (.ref (s.heap.objs.size + 1)) { s with heap := h' }) :
    wpAny (model prog w) A (call (.type "enumerate") [v]) Q E s := by
  refine callType_new F.called_enumerate (by decide) (F.typeCall_enumerate_1 _) (F.newCall_enumerate_1 _) (fun obj => F.args_object_init_2 obj _) F.entry_enumerate_new
    (meets_enumerate_newB1 B) ⟨h1, ?_⟩
  have hz : (s.heap.push o).objs.size = s.heap.objs.size + 1 := Heap.size_push ..
  show _ ∧ _
  rw [hz]
  have he : IsEnum ((s.heap.push o).push { cls := .type "enumerate", data := .fields #[.none, .bool false, .ref s.heap.objs.size, rawInt 0, .none, .none] }) (s.heap.objs.size + 1) s.heap.objs.size 0 .none := by
    have := Heap.get?_push_size (s.heap.push o) (o := { cls := .type "enumerate", data := .fields #[.none, .bool false, .ref s.heap.objs.size, rawInt 0, .none, .none] }) rfl
    rw [hz] at this; exact this
  refine ⟨⟨_, he, rfl⟩, h _ he (Heap.get?_push_of_some _ (Heap.get?_push_size _ B.free)) (by rw [Heap.size_push, hz]) fun b o x => Heap.get?_push_of_some _ (Heap.get?_push_of_some _ x)⟩
def iE (K : PySem.W.Frag) (ta : TA) : TI := fun σ H R => ta σ H fun vs H1 => ∃ (v1 : V) (k1 : Kd) (xs : List V), vs = [v1] ∧ Src K H1 k1 v1 xs ∧ R (ItE K k1 v1 xs) H1
theorem pi_e {X : Cx} {e : Expr} {ta : TA} {p pos tpos : Pos} {elts : List Expr} {kk : Nat} (hg : Gl X "enumerate") (hm : X.mg "enumerate" = none) (ha : PA X [e] ta) (hs : starEach [e] X.env = [(false, eval e X.env)] := by rfl) :
    PI X (.Tuple elts kk tpos) (.Call (.Name "enumerate" p) [e] [] pos) (iE X.K ta) := by
  refine ⟨fun pins s σ H R I h => ?_⟩
  refine Call_ (ld_blt I hg hm boot_enumerate (PyProof.Rows.callWith_type1 (thn (ha.run pos pins s σ H _ I h) fun us s1 ⟨vs, H1, I1, r1, q1⟩ => ?_) hs rfl))
  obtain ⟨v1, k1, xs, ex, hx, q⟩ := q1
  subst ex
  cases r1 with
  | cons r rr =>
    cases rr
    obtain ⟨o1, B1, b1, c1, d1, l1⟩ := src_begins I1 hx r
    refine enum_begins1 b1 c1 fun h' he g1 hsz hk => wpAny_pyIter_enum he ?_
    have I2 : Inv X pins σ H1 { s1 with heap := h' } := I1.kept (t' := s1.toks) hk
    refine ⟨s1.heap.objs.size + 1, [s1.heap.objs.size + 1, s1.heap.objs.size], _, _, H1, rfl, I2, turn_e (Nat.succ_ne_self _) (fun a e => out2 (l1 a e)), ⟨⟨.none, by rw [show (0 : Int) + ((0 : Nat) : Int) = 0 from rfl]; exact he⟩, d1 _ _ g1⟩, fun c hcm => fresh_fp I1 (le2 hcm), q⟩
end GZ

/-! Words and signs as texts; a text times a number, a tuple once. No row. -/
namespace KW
open PySem PySem.Spec PyProof.Rows L2 GL KC GZ
def sg (j : Nat) : Str := ⟨#[97 + j]⟩
def wS (w : List Nat) : Str := ⟨(w.map (97 + ·)).toArray⟩
theorem wS_nil : wS [] = ("" : Str) := by decide +kernel
theorem wS_len (w : List Nat) : (wS w).length = w.length := by
  show ((w.map (97 + ·)).toArray).size = _
  simp
theorem wS_size (w : List Nat) : (wS w).cps.size = w.length := wS_len w
theorem wS_list (w : List Nat) : (wS w).cps.toList = w.map (97 + ·) := rfl
theorem wS_at {w : List Nat} {i c : Nat} (h : (wS w).cps[i]? = some c) : ∃ j, w[i]? = some j ∧ c = 97 + j := by
  have h' : (w.map (97 + ·))[i]? = some c := by simpa [wS] using h
  rw [List.getElem?_map] at h'
  cases e : w[i]? with
  | none => rw [e] at h'; cases h'
  | some j => rw [e] at h'; exact ⟨j, rfl, (Option.some.inj h').symm⟩
theorem wS_app (w u : List Nat) : wS w ++ wS u = wS (w ++ u) := by
  have e : ∀ a b : Str, a ++ b = ⟨a.cps ++ b.cps⟩ := fun _ _ => rfl
  rw [e]
  simp [wS]
theorem sg_wS (j : Nat) : sg j = wS [j] := rfl
theorem occ_at : ∀ j, j < 4 → Builtin.Str.occurrences ("abcd" : Str) (sg j) 0 ("abcd" : Str).length 1 = [j] := by
  intro j hj
  rcases j with _ | _ | _ | _ | j
  · decide +kernel
  · decide +kernel
  · decide +kernel
  · decide +kernel
  · omega
theorem cut_abcd : ∀ l : Nat, 1 ≤ l → l ≤ 4 → cutS ("abcd" : Str) none (some (l : Int)) = wS (List.range l) := by
  intro l h1 h4
  rcases l with _ | _ | _ | _ | _ | l
  · omega
  · decide +kernel
  · decide +kernel
  · decide +kernel
  · decide +kernel
  · omega
/-- texts of one sign each, joined -/
theorem join_c : ∀ cs : List Nat, Txt.join ("" : Str) (cs.map fun c => (⟨#[c]⟩ : Str)) = ⟨cs.toArray⟩ := by
  intro w
  rw [TL.join_eq]
  have e0 : ∀ a : Str, a ++ ("" : Str) = a := by
    intro a
    show (⟨a.cps ++ #[]⟩ : Str) = a
    simp
  induction w with
  | nil => rfl
  | cons j w ih =>
    cases w with
    | nil => rfl
    | cons k w =>
      show (⟨#[j]⟩ : Str) ++ ("" : Str) ++ Str.join ("" : Str) ((k :: w).map fun c => (⟨#[c]⟩ : Str)) = _
      rw [ih, e0]
      show (⟨#[j] ++ (k :: w).toArray⟩ : Str) = _
      simp
theorem len_c : ∀ us : List Nat, ((us.map fun c => (⟨#[c]⟩ : Str)).map (·.length)).sum = us.length := by
  intro us
  induction us with
  | nil => rfl
  | cons y ys ih =>
    rw [List.map_cons, List.map_cons, List.sum_cons, ih, List.length_cons]
    show 1 + ys.length = ys.length + 1
    omega
/-- signs: true is minus -/
def sc (b : Bool) : Nat := if b then 45 else 43
def sS (bs : List Bool) : Str := ⟨(bs.map sc).toArray⟩
theorem sS_len (bs : List Bool) : (sS bs).length = bs.length := by
  show ((bs.map sc).toArray).size = _
  simp
theorem sgs_sS (bs : List Bool) : sgs (sS bs) = bs.map fun b => V.str ⟨#[sc b]⟩ := by
  unfold sgs sS
  simp
theorem sgs_abcd : sgs ("abcd" : Str) = [V.str (sg 0), V.str (sg 1), V.str (sg 2), V.str (sg 3)] := by rfl
theorem sgs_abcd_at {i : Nat} {x : V} (h : (sgs ("abcd" : Str))[i]? = some x) : x = .str (sg i) ∧ i < 4 := by
  rw [sgs_abcd] at h
  rcases i with _ | _ | _ | _ | i
  · cases h; exact ⟨rfl, by decide⟩
  · cases h; exact ⟨rfl, by decide⟩
  · cases h; exact ⟨rfl, by decide⟩
  · cases h; exact ⟨rfl, by decide⟩
  · cases h
theorem sc_minus (b : Bool) : decide (V.str ⟨#[sc b]⟩ = V.str ("-" : Str)) = b := by cases b <;> decide +kernel
theorem count_wS (w : List Nat) (j : Nat) : Txt.count (wS w) (sg j) = ((w.count j : Nat) : Int) := by
  unfold sg
  rw [count_cnt, wS_list]
  induction w with
  | nil => rfl
  | cons a w ih =>
    rw [List.map_cons, cnt_cons, ih, List.count_cons]
    by_cases h : a = j
    · subst h
      simp
      omega
    · have h2 : ¬ 97 + a = 97 + j := by omega
      rw [if_neg h2]
      simp [h]
/-! ### one of the signs of a text -/
def spOneT : Sp := fun vs H Q _ => ∃ (d c : Addr) (z : Str) (m : Nat), vs = [.ref d, .str z] ∧ Deck H d c m ∧ m ≤ 1000000000 ∧ 0 < z.length ∧ z.length ≤ 1000 ∧
  ∀ (k : Nat) (G : Hp), k ∈ z.cps.toList → Deck G d c (m + 1) → Same (Hd d c H) (Hd d c G) → Q (.str ⟨#[k]⟩) G
def spWord : Sp := fun vs H Q _ => ∃ (d c : Addr) (l most m : Nat), vs = [.ref d, .int l, .int most] ∧ Deck H d c m ∧ m ≤ 900000000 ∧ 1 ≤ l ∧ l ≤ 4 ∧ most ≤ 1000 ∧
  ∀ (w : List Nat) (G : Hp), (∀ j ∈ w, j < l) → w.length ≤ most → Deck G d c (m + 1002) → Same (Hd d c H) (Hd d c G) → Q (.str (wS w)) G
def spSigns : Sp := fun vs H Q _ => ∃ (d c : Addr) (l m : Nat), vs = [.ref d, .int l] ∧ Deck H d c m ∧ m ≤ 900000000 ∧ l ≤ 4 ∧
  ∀ (bs : List Bool) (G : Hp), bs.length = l → Deck G d c (m + 4) → Same (Hd d c H) (Hd d c G) → Q (.str (sS bs)) G
theorem bs_of : ∀ cs : List Nat, (∀ c ∈ cs, c = 43 ∨ c = 45) → ∃ bs : List Bool, cs = bs.map sc
  | [], _ => ⟨[], rfl⟩
  | c :: cs, h => by
    obtain ⟨bs, e⟩ := bs_of cs fun x hx => h x (List.mem_cons_of_mem _ hx)
    rcases h c List.mem_cons_self with rfl | rfl
    · exact ⟨false :: bs, by rw [e]; rfl⟩
    · exact ⟨true :: bs, by rw [e]; rfl⟩
theorem ws_of : ∀ (l : Nat) (cs : List Nat), (∀ c ∈ cs, c ∈ (wS (List.range l)).cps.toList) → ∃ w : List Nat, cs = w.map (97 + ·) ∧ ∀ j ∈ w, j < l
  | _, [], _ => ⟨[], rfl, fun _ h => nomatch h⟩
  | l, c :: cs, h => by
    obtain ⟨w, e, hw⟩ := ws_of l cs fun x hx => h x (List.mem_cons_of_mem _ hx)
    have hc := h c List.mem_cons_self
    rw [wS_list] at hc
    obtain ⟨j, hj, ej⟩ := List.mem_map.mp hc
    refine ⟨j :: w, by rw [e, ← ej]; rfl, fun k hk => ?_⟩
    rcases List.mem_cons.mp hk with rfl | hk
    · exact List.mem_range.mp hj
    · exact hw k hk
/-! ### the sign and the weight of a word -/
def sgn (bs : List Bool) : List Nat → Int
  | [] => 1
  | j :: w => (if bs.getD j false then -1 else 1) * sgn bs w
theorem sgn_app (bs : List Bool) : ∀ u v : List Nat, sgn bs (u ++ v) = sgn bs u * sgn bs v
  | [], v => by show sgn bs v = 1 * sgn bs v; omega
  | j :: u, v => by
    show _ * sgn bs (u ++ v) = _ * sgn bs u * sgn bs v
    rw [sgn_app bs u v, Int.mul_assoc]
theorem sgn_one (bs : List Bool) (j : Nat) : sgn bs [j] = if bs.getD j false then -1 else 1 := Int.mul_one _
theorem sgn_odd (bs : List Bool) : ∀ w : List Nat, sgn bs w = if (w.countP fun j => bs.getD j false) % 2 = 1 then -1 else 1
  | [] => rfl
  | j :: w => by
    show _ * sgn bs w = _
    rw [sgn_odd bs w, List.countP_cons]
    cases bs.getD j false with
    | false => simp
    | true =>
      simp only [if_true]
      split <;> split <;> omega
theorem sgn_pm (bs : List Bool) (w : List Nat) : sgn bs w = 1 ∨ sgn bs w = -1 := by
  rw [sgn_odd]
  split
  · exact .inr rfl
  · exact .inl rfl
theorem sgn_plus (l : Nat) : ∀ w : List Nat, sgn (List.replicate l false) w = 1
  | [] => rfl
  | j :: w => by
    show _ * sgn _ w = _
    rw [sgn_plus l w]
    have e : (List.replicate l false).getD j false = false := by
      rw [List.getD_eq_getElem?_getD]
      cases h : (List.replicate l false)[j]? with
      | none => rfl
      | some b => exact List.eq_of_mem_replicate (List.mem_of_getElem? h)
    rw [e]
    rfl
theorem sum_counts (w : List Nat) : ∀ L : List Nat, L.Nodup → (L.map fun j => ((w.count j : Nat) : Int)).sum = ((w.countP fun j => decide (j ∈ L) : Nat) : Int)
  | [], _ => by simp
  | a :: L, nd => by
    have nd' := List.nodup_cons.mp nd
    rw [List.map_cons, List.sum_cons, sum_counts w L nd'.2]
    have : ∀ w : List Nat, (w.countP fun j => decide (j ∈ a :: L)) = w.count a + w.countP fun j => decide (j ∈ L) := by
      intro w
      induction w with
      | nil => rfl
      | cons x w ih =>
        rw [List.countP_cons, List.count_cons, List.countP_cons, ih]
        by_cases h : x = a
        · subst h
          simp [nd'.1]
          omega
        · simp [h]
          omega
    rw [this w]
    omega
def minus (bs : List Bool) (l : Nat) : List Nat := (List.range l).filter fun j => bs.getD j false
theorem minus_sum (bs : List Bool) (l : Nat) (w : List Nat) (h : ∀ j ∈ w, j < l) : ((minus bs l).map fun j => ((w.count j : Nat) : Int)).sum = ((w.countP fun j => bs.getD j false : Nat) : Int) := by
  rw [sum_counts w (minus bs l) (List.nodup_range.filter _)]
  congr 1
  apply List.countP_congr
  intro j hj
  simp [minus, h j hj]
def wsum (ws : List Int) (w : List Nat) : Int := ((List.range ws.length).map fun j => ((w.count j : Nat) : Int) * ws.getD j 0).sum
theorem sum_add {α : Type} (f g : α → Int) : ∀ L : List α, (L.map fun j => f j + g j).sum = (L.map f).sum + (L.map g).sum
  | [] => rfl
  | a :: L => by
    rw [List.map_cons, List.sum_cons, sum_add f g L, List.map_cons, List.sum_cons, List.map_cons, List.sum_cons]
    omega
theorem wsum_app (ws : List Int) (u v : List Nat) : wsum ws (u ++ v) = wsum ws u + wsum ws v := by
  unfold wsum
  rw [← sum_add]
  congr 1
  refine List.map_congr_left fun j _ => ?_
  rw [List.count_append, ← Int.add_mul]
  congr 1
theorem sum_bound (f : Nat → Int) (b : Nat) (h : ∀ j, (f j).natAbs ≤ b) : ∀ L : List Nat, ((L.map f).sum).natAbs ≤ L.length * b
  | [] => by simp
  | a :: L => by
    rw [List.map_cons, List.sum_cons, List.length_cons, Nat.add_mul]
    have := sum_bound f b h L
    have := h a
    omega
theorem wsum_le (ws : List Int) (w : List Nat) (hl : ws.length ≤ 4) (hw : w.length ≤ 1000) (h : ∀ x ∈ ws, x.natAbs ≤ 99) : (wsum ws w).natAbs ≤ 400000 := by
  have := sum_bound (fun j => ((w.count j : Nat) : Int) * ws.getD j 0) 99000 (fun j => ?_) (List.range ws.length)
  · rw [List.length_range] at this
    unfold wsum
    omega
  · have c := List.count_le_length (a := j) (l := w)
    have g : (ws.getD j 0).natAbs ≤ 99 := by
      rw [List.getD_eq_getElem?_getD]
      cases e : ws[j]? with
      | none => exact Nat.zero_le _
      | some x => exact h x (List.mem_of_getElem? e)
    show (((w.count j : Nat) : Int) * ws.getD j 0).natAbs ≤ 99000
    rw [Int.natAbs_mul, Int.natAbs_natCast]
    exact Nat.le_trans (Nat.mul_le_mul (Nat.le_trans c hw) g) (by decide)
theorem wsum_nought (l : Nat) (w : List Nat) : wsum (List.replicate l 0) w = 0 := by
  unfold wsum
  have : ∀ L : List Nat, (L.map fun j => ((w.count j : Nat) : Int) * (List.replicate l (0 : Int)).getD j 0).sum = 0 := by
    intro L
    induction L with
    | nil => rfl
    | cons a L ih =>
      rw [List.map_cons, List.sum_cons, ih]
      have e : (List.replicate l (0 : Int)).getD a 0 = 0 := by
        rw [List.getD_eq_getElem?_getD]
        cases h : (List.replicate l (0 : Int))[a]? with
        | none => rfl
        | some b => exact List.eq_of_mem_replicate (List.mem_of_getElem? h)
      rw [e, Int.mul_zero]
      rfl
  exact this _
/-! ### a text times a number, a tuple once -/
def rMulS : R2 := fun x y H Q => ∃ (c : Nat) (n : Nat), x = .str ⟨#[c]⟩ ∧ y = .int (n : Int) ∧ 1 ≤ n ∧ n ≤ 100000 ∧ Q (.str ⟨(List.replicate n c).toArray⟩) H
theorem rep_c (c : Nat) : ∀ (n : Nat) (acc : List Nat), (List.replicate n #[c]).foldl (· ++ ·) acc.toArray = (acc ++ List.replicate n c).toArray
  | 0, acc => by simp
  | n + 1, acc => by
    rw [List.replicate_succ, List.foldl_cons]
    have e : acc.toArray ++ #[c] = (acc ++ [c]).toArray := by simp
    rw [e, rep_c c n]
    rw [List.replicate_succ, List.append_assoc]
    rfl
theorem op_mulS {X : Cx} : OpR X (binaryOp .Mult) rMulS := by
  intro pins s σ H x y v u Q I rx ry h
  obtain ⟨c, n, rfl, rfl, h1, h2, q⟩ := h
  obtain ⟨t, rfl⟩ := rx
  obtain ⟨t', rfl⟩ := ry
  have e1 : ¬ ((n : Int) < 1) := by omega
  have l1 : (⟨#[c]⟩ : Str).length = 1 := rfl
  refine P.mul_str (x := ⟨#[c]⟩) (n := (n : Int)) (t := t) (u := t') ?_ (fun _ _ => ?_) (fun _ _ => ?_) ?_
  · rw [decide_eq_false (by omega), decide_eq_false (by omega)]; rfl
  · rw [l1]
    have : (1 : Int) ≤ (2 ^ 63 - 1) / (n : Int) := by
      rw [Int.le_ediv_iff_mul_le (by omega)]
      omega
    show ¬ (((1 : Nat) : Int) > _)
    omega
  · show decide _ = false
    rw [l1, Int.toNat_natCast, sizeLine_eq]
    exact decide_eq_false (by omega)
  · rw [if_neg e1]
    by_cases e2 : n = 1
    · subst e2
      rw [if_pos (by rfl)]
      exact ⟨.str ⟨#[c]⟩, H, I, ⟨_, rfl⟩, q⟩
    · have e3 : (((n : Int) == 1) || ((⟨#[c]⟩ : Str).length == 0)) = false := by
        rw [l1]
        have : ((n : Int) == 1) = false := beq_eq_false_iff_ne.mpr (by omega)
        rw [this]
        rfl
      rw [e3, if_neg Bool.false_ne_true, Int.toNat_natCast]
      have e4 := rep_c c n []
      rw [List.nil_append] at e4
      rw [e4]
      refine ⟨?_, .str ⟨(List.replicate n c).toArray⟩, H, I.tok _, ⟨_, rfl⟩, q⟩
      show ((List.replicate n c).toArray).size ≤ sizeLine
      rw [List.size_toArray, List.length_replicate, sizeLine_eq]
      omega
theorem tuple_mul1 (l : Addr) (items : Array Value) (n : Nat) (dd : Option Addr) (sl : Array (Option Value)) (u : Tok) :
    Meets (Builtin.«tuple.__mul__» ⟨[.ref l, .int 1 u], []⟩) (fun _ R s => s.heap.get? l = some { cls := .type "tuple", dict := dd, data := .seq items n, slots := sl } ∧ R (.ok (.ret (Value.ref l))) s) :=
  .of_wp fun prog w A R s h => by
    obtain ⟨hp, g, d, tk, os⟩ := s
    obtain ⟨hl, h⟩ := h
    have f1 := AutoSeq1.idx_int
    have c1 : (items.isEmpty || (1 : Int) == 1) = true := by rw [Bool.or_eq_true]; exact .inr rfl
    wp_walk using AutoSeq1.wpAny_loadPart' hl
    repeat (first
      | (refine wpAny_ite_false (decide_eq_false (by decide)) ?_; wp_walk using AutoSeq1.wpAny_loadPart' hl)
      | (refine wpAny_ite_true (decide_eq_true c1) ?_; wp_walk using AutoSeq1.wpAny_loadPart' hl))
    exact ⟨_, rfl, h⟩
def rRepT1 (K : PySem.W.Frag) : R2 := fun x y H Q => ∃ (l : Addr) (k : Nat) (xs : List V), x = .ref l ∧ y = .int (k : Int) ∧ SqT K H l xs ∧ xs ≠ [] ∧ 1 ≤ k ∧ k ≤ 1000 ∧ xs.length ≤ 1000 ∧ (k = 1 → Q (.ref l) H) ∧ ∀ p, H p = none → Q (.ref p) (upd H p (.tup (List.replicate k xs).flatten))
theorem op_repT1 {X : Cx} : OpR X (binaryOp .Mult) (rRepT1 X.K) := by
  intro pins s σ H x y v u Q I rx ry h
  obtain ⟨l, k, xs, rfl, rfl, hT, hne, h1, h2, hz, q1, q⟩ := h
  by_cases e : k = 1
  · subst e
    cases rx
    obtain ⟨t, rfl⟩ := ry
    obtain ⟨its, r, ⟨⟨cls, dd, data, sl⟩, ho, hc, n, hd⟩, hs⟩ := I.tuple hT
    simp only at hc hd
    subst hc hd
    exact wpAny_binaryOp_repeat_ref (T := "tuple") (U := "int") (by decide) ⟨_, ho, rfl⟩ (fun s' => typeIs_int s' ((1 : Nat) : Int) t) noFill_tuple_mul F.fills_int_mul F.slot_int_rmul repeat_tuple F.slot_int_index.lookup
      (call_meets F.slot_int_rmul (typeIs_int s ((1 : Nat) : Int) t) F.entry_int_rmul (F.args_int_rmul_2 _ _) (int_rmul_tuple ((1 : Nat) : Int) t l its.toArray n dd sl)
        ⟨ho, rfl, ⟨_, ho, rfl⟩, call_meets F.slot_tuple_mul ⟨_, ho, rfl⟩ F.entry_tuple_mul (F.args_tuple_mul_2 _ _) (tuple_mul1 l its.toArray n dd sl t) ⟨ho, .ref l, H, I, rfl, q1 rfl⟩⟩)
  · exact op_repT pins s σ H _ _ v u Q I rx ry ⟨l, k, xs, rfl, rfl, hT, hne, by omega, by omega, hz, fun p np => by rw [Int.toNat_natCast]; exact q p np⟩
end KW

/-! Rules: pairs of words; a rule as an object; what changes a word. No row. -/
namespace KR
open PySem PySem.Spec PyProof.Rows L2 GL KC GZ KW
abbrev Pr := List Nat × List Nat
def pD (p : Pr) : PyData := .tuple [.str (wS p.1), .str (wS p.2)]
def rD (rs : List Pr) : PyData := .tuple (rs.map pD)
structure Rul (l : Nat) (rs : List Pr) : Prop where
  len : rs.length ≤ 6
  ok : ∀ p ∈ rs, 1 ≤ p.1.length ∧ p.1.length ≤ 3 ∧ p.2.length = p.1.length ∧ p.1 ≠ p.2 ∧ (∀ j ∈ p.1, j < l) ∧ ∀ j ∈ p.2, j < l
structure RuleAt (H : Hp) (a : Addr) (rs : List Pr) : Prop where
  ex : ∃ ts : List Addr, H a = some (.tup (ts.map V.ref)) ∧ ts.length = rs.length ∧ ∀ (i : Nat) (p : Pr), rs[i]? = some p → ∃ t : Addr, ts[i]? = some t ∧ H t = some (.tup [.str (wS p.1), .str (wS p.2)])
theorem RuleAt.same {H H' : Hp} {a : Addr} {rs : List Pr} (R : RuleAt H a rs) (s : Same H H') : RuleAt H' a rs := by
  obtain ⟨ts, h1, h2, h3⟩ := R.ex
  exact ⟨ts, s _ _ h1, h2, fun i p e => let ⟨t, a, b⟩ := h3 i p e; ⟨t, a, s _ _ b⟩⟩
theorem pairs_dt {K : PySem.W.Frag} {H : Hp} : ∀ {ts : List Addr} {rs : List Pr}, ts.length = rs.length → (∀ (i : Nat) (p : Pr), rs[i]? = some p → ∃ t : Addr, ts[i]? = some t ∧ H t = some (.tup [.str (wS p.1), .str (wS p.2)])) → DtAll K H (ts.map V.ref) (rs.map pD)
  | [], [], _, _ => .nil
  | t :: ts, p :: rs, hl, h => by
    obtain ⟨t', h1, h2⟩ := h 0 p rfl
    cases h1
    refine .cons (.tup h2 (.cons (.str _) (.cons (.str _) .nil))) (pairs_dt (by simpa using hl) fun i q hq => ?_)
    obtain ⟨t2, a, b⟩ := h (i + 1) q (by simpa using hq)
    exact ⟨t2, by simpa using a, b⟩
theorem RuleAt.dt {K : PySem.W.Frag} {H : Hp} {a : Addr} {rs : List Pr} (R : RuleAt H a rs) : Dt K H (.ref a) (rD rs) := by
  obtain ⟨ts, h1, h2, h3⟩ := R.ex
  exact .tup h1 (pairs_dt h2 h3)
theorem word_shown (w : List Nat) (hw : ∀ j ∈ w, j < 4) : (PyData.str (wS w)).shown.length ≤ 10 * w.length + 2 := by
  rw [PyData.shown_str]
  have h := StrLaws.reprText_len (wS w) (fun c hc => by
    rw [wS_list] at hc
    obtain ⟨j, hj, e⟩ := List.mem_map.mp hc
    have := hw j hj
    omega)
  rw [wS_len] at h
  exact h
theorem fit_word {w : List Nat} {n k : Nat} (hw : ∀ j ∈ w, j < 4) (hn : 10 * w.length + 2 ≤ n) : Fit n k (.str (wS w)) := fit_str (word_shown w hw) hn
theorem Rul.fit {l : Nat} {rs : List Pr} (R : Rul l rs) (l4 : l ≤ 4) : Fit 1000 2 (rD rs) := by
  have one : ∀ p ∈ rs, Fit 71 1 (pD p) := fun p hp => by
    obtain ⟨h1, h2, h3, _, h5, h6⟩ := R.ok p hp
    exact (Fit.tup (FitAll.cons (fit_word (n := 32) (k := 0) (fun j hj => Nat.lt_of_lt_of_le (h5 j hj) l4) (by omega)) (FitAll.cons (fit_word (n := 32) (fun j hj => Nat.lt_of_lt_of_le (h6 j hj) l4) (by omega)) FitAll.nil))).mono (by omega) (Nat.le_refl _)
  have all : ∀ qs : List Pr, (∀ p ∈ qs, Fit 71 1 (pD p)) → FitAll (73 * qs.length) 1 (qs.map pD) := by
    intro qs
    induction qs with
    | nil => intro _; exact FitAll.nil
    | cons p qs ih =>
      intro h
      exact (FitAll.cons (h p List.mem_cons_self) (ih fun q hq => h q (List.mem_cons_of_mem _ hq))).mono (by rw [List.length_cons]; omega) (Nat.le_refl _)
  exact (Fit.tup (all rs one)).mono (by have := R.len; omega) (Nat.le_refl _)
def spRule : Sp := fun vs H Q _ => ∃ (d c : Addr) (l m : Nat), vs = [.ref d, .int l] ∧ Deck H d c m ∧ m ≤ 900000000 ∧ 1 ≤ l ∧ l ≤ 4 ∧
  ∀ (a : Addr) (rs : List Pr) (G : Hp), Rul l rs → RuleAt (Hd d c G) a rs → Deck G d c (m + 100) → Same (Hd d c H) (Hd d c G) → Q (.ref a) G

/-! ### what changes a word -/
/-- a stands in w at k -/
def At (w a : List Nat) (k : Nat) : Prop := (w.drop k).take a.length = a
theorem At.le {w a : List Nat} {k : Nat} (h : At w a k) (ha : 1 ≤ a.length) : k + a.length ≤ w.length := by
  have := congrArg List.length h
  rw [List.length_take, List.length_drop] at this
  omega
/-- the partner of the word of the pair that stands at k -/
def Hit (w : List Nat) (p : Pr) (k : Nat) (b : List Nat) : Prop := (At w p.1 k ∧ b = p.2) ∨ (At w p.2 k ∧ b = p.1)
def sw (p : Pr) : Pr := (p.2, p.1)
theorem Hit.sw {w : List Nat} {p : Pr} {k : Nat} {b : List Nat} : Hit w (sw p) k b ↔ Hit w p k b := Or.comm
/-- the change of a word -/
structure IsChg (rs : List Pr) (w : List Nat) (x : Nat × Nat × List Nat) : Prop where
  hit : ∃ p, rs[x.2.1]? = some p ∧ Hit w p x.1 x.2.2
  low : ∀ (k i : Nat) (p : Pr) (b : List Nat), rs[i]? = some p → Hit w p k b → x.1 < k ∨ (x.1 = k ∧ x.2.1 ≤ i)
def NoChg (rs : List Pr) (w : List Nat) : Prop := ∀ (k i : Nat) (p : Pr) (b : List Nat), rs[i]? = some p → ¬ Hit w p k b
theorem hit_one {l : Nat} {rs : List Pr} (R : Rul l rs) {w : List Nat} {i k : Nat} {p : Pr} {b b' : List Nat} (hp : rs[i]? = some p) (h : Hit w p k b) (h' : Hit w p k b') : b = b' := by
  obtain ⟨h1, _, h3, h4, _⟩ := R.ok p (List.mem_of_getElem? hp)
  have no : ¬ (At w p.1 k ∧ At w p.2 k) := fun ⟨a1, a2⟩ => h4 (by
    unfold At at a1 a2
    rw [h3] at a2
    exact a1.symm.trans a2)
  rcases h with ⟨a, rfl⟩ | ⟨a, rfl⟩ <;> rcases h' with ⟨a', rfl⟩ | ⟨a', rfl⟩
  · rfl
  · exact absurd ⟨a, a'⟩ no
  · exact absurd ⟨a', a⟩ no
  · rfl
theorem IsChg.one {l : Nat} {rs : List Pr} (R : Rul l rs) {w : List Nat} {x y : Nat × Nat × List Nat} (h : IsChg rs w x) (h' : IsChg rs w y) : x = y := by
  obtain ⟨p, p1, p2⟩ := h.hit
  obtain ⟨q, q1, q2⟩ := h'.hit
  have a := h.low _ _ _ _ q1 q2
  have b := h'.low _ _ _ _ p1 p2
  have e1 : x.1 = y.1 := by omega
  have e2 : x.2.1 = y.2.1 := by omega
  rw [← e2, p1] at q1
  cases q1
  rw [← e1] at q2
  have e3 := hit_one R p1 p2 q2
  obtain ⟨x1, x2, x3⟩ := x
  obtain ⟨y1, y2, y3⟩ := y
  simp only at e1 e2 e3
  rw [e1, e2, e3]
open Classical in
noncomputable def chg (rs : List Pr) (w : List Nat) : Option (Nat × Nat × List Nat) := if h : ∃ x, IsChg rs w x then some h.choose else none
theorem chg_some {l : Nat} {rs : List Pr} (R : Rul l rs) {w : List Nat} {x : Nat × Nat × List Nat} (h : IsChg rs w x) : chg rs w = some x := by
  unfold chg
  have e : ∃ x, IsChg rs w x := ⟨x, h⟩
  rw [dif_pos e]
  exact congrArg some (IsChg.one R e.choose_spec h)
theorem chg_none {rs : List Pr} {w : List Nat} (h : NoChg rs w) : chg rs w = none := by
  unfold chg
  have e : ¬ ∃ x, IsChg rs w x := fun ⟨x, hx⟩ => by
    obtain ⟨p, p1, p2⟩ := hx.hit
    exact h _ _ _ _ p1 p2
  rw [dif_neg e]
theorem chg_is {rs : List Pr} {w : List Nat} {x : Nat × Nat × List Nat} (h : chg rs w = some x) : IsChg rs w x := by
  unfold chg at h
  by_cases e : ∃ x, IsChg rs w x
  · rw [dif_pos e] at h
    cases h
    exact e.choose_spec
  · rw [dif_neg e] at h
    cases h
theorem chg_sw {l : Nat} {rs : List Pr} (R : Rul l rs) (R' : Rul l (rs.map sw)) (w : List Nat) : chg (rs.map sw) w = chg rs w := by
  have at' : ∀ {i : Nat} {p : Pr}, (rs.map sw)[i]? = some p → ∃ q, rs[i]? = some q ∧ p = sw q := fun {i p} h => by
    rw [List.getElem?_map] at h
    cases e : rs[i]? with
    | none => rw [e] at h; cases h
    | some q => rw [e] at h; exact ⟨q, rfl, (Option.some.inj h).symm⟩
  cases e : chg rs w with
  | some x =>
    obtain ⟨⟨p, p1, p2⟩, lo⟩ := chg_is e
    refine chg_some R' ⟨⟨sw p, by rw [List.getElem?_map, p1]; rfl, Hit.sw.mpr p2⟩, fun k i q b hq hb => ?_⟩
    obtain ⟨q', q1, rfl⟩ := at' hq
    exact lo k i q' b q1 (Hit.sw.mp hb)
  | none =>
    cases e' : chg (rs.map sw) w with
    | none => rfl
    | some x =>
      obtain ⟨⟨p, p1, p2⟩, lo⟩ := chg_is e'
      obtain ⟨q', q1, rfl⟩ := at' p1
      have := chg_some R (x := x) ⟨⟨q', q1, Hit.sw.mp p2⟩, fun k i q b hq hb => lo k i (sw q) b (by rw [List.getElem?_map, hq]; rfl) (Hit.sw.mpr hb)⟩
      rw [e] at this
      cases this
theorem Rul.sw {l : Nat} {rs : List Pr} (R : Rul l rs) : Rul l (rs.map sw) := by
  refine ⟨by rw [List.length_map]; exact R.len, fun p hp => ?_⟩
  obtain ⟨q, hq, rfl⟩ := List.mem_map.mp hp
  obtain ⟨h1, h2, h3, h4, h5, h6⟩ := R.ok q hq
  exact ⟨by show 1 ≤ q.2.length; omega, by show q.2.length ≤ 3; omega, h3.symm, fun e => h4 e.symm, h6, h5⟩
/-- the word that comes -/
def come (w : List Nat) (x : Nat × Nat × List Nat) : List Nat := w.take x.1 ++ x.2.2 ++ w.drop (x.1 + x.2.2.length)
/-- the value that tells it -/
def Res (w : List Nat) : Option (Nat × Nat × List Nat) → V → Hp → Prop
  | none, v, _ => v = .non
  | some x, v, G => ∃ t : Addr, v = .ref t ∧ G t = some (.tup [.int x.1, .int x.2.1, .str (wS (come w x))])
def spChg : Sp := fun vs H Q _ => ∃ (a : Addr) (l : Nat) (rs : List Pr) (w : List Nat), vs = [.ref a, .str (wS w)] ∧ RuleAt H a rs ∧ Rul l rs ∧ w.length ≤ 1000 ∧ ∀ (v : V) (G : Hp), Same H G → Res w (chg rs w) v G → Q v G
def resD (w : List Nat) : Option (Nat × Nat × List Nat) → PyData
  | none => .none
  | some x => .tuple [.int x.1, .int x.2.1, .str (wS (come w x))]
theorem Res.dt {K : PySem.W.Frag} {w : List Nat} {o : Option (Nat × Nat × List Nat)} {v : V} {G : Hp} (h : Res w o v G) : Dt K G v (resD w o) := by
  cases o with
  | none =>
    have e : v = .non := h
    rw [e]
    exact .non
  | some x =>
    obtain ⟨t, rfl, g⟩ := h
    exact .tup g (.cons (.int _) (.cons (.int _) (.cons (.str _) .nil)))

/-! ### texts -/
theorem add_inj : ∀ x y : List Nat, x.map (97 + ·) = y.map (97 + ·) → x = y
  | [], [], _ => rfl
  | [], b :: y, h => nomatch h
  | a :: x, [], h => nomatch h
  | a :: x, b :: y, h => by
    rw [List.map_cons, List.map_cons] at h
    injection h with h1 h2
    have e : a = b := by omega
    rw [e, add_inj x y h2]
theorem find_wS (w a : List Nat) (ha : 1 ≤ a.length) : (Txt.find (wS w) (wS a) = -1 ∧ ∀ k, ¬ At w a k) ∨ ∃ k : Nat, Txt.find (wS w) (wS a) = (k : Int) ∧ At w a k ∧ ∀ j, j < k → ¬ At w a j := by
  have iff : ∀ k, StrLaws.At (wS w) (wS a) (wS w).length k ↔ At w a k := fun k => by
    have e : Builtin.Str.subAt (wS w) (wS a) k = true ↔ At w a k := by
      unfold Builtin.Str.subAt At
      rw [wS_len]
      show ((((w.map (97 + ·)).toArray).extract k (k + a.length)) == ((a.map (97 + ·)).toArray)) = true ↔ _
      rw [beq_iff_eq, ← Array.toList_inj]
      simp only [List.extract_toArray, List.extract_eq_take_drop, Nat.add_sub_cancel_left, ← List.map_drop, ← List.map_take]
      exact ⟨fun h => add_inj _ _ h, fun h => by rw [h]⟩
    constructor
    · intro h
      exact e.mp h.2
    · intro h
      refine ⟨?_, e.mpr h⟩
      rw [wS_len, wS_len]
      exact h.le ha
  unfold Txt.find
  rcases StrLaws.occ_head (wS w) (wS a) 1 (Nat.le_refl 1) with ⟨h1, h2⟩ | ⟨i, r, h1, h2, h3⟩
  · rw [h1]
    exact .inl ⟨rfl, fun k hk => h2 k ((iff k).mpr hk)⟩
  · rw [h1]
    exact .inr ⟨i, rfl, (iff i).mp h2, fun j hj hk => h3 j hj ((iff j).mpr hk)⟩
theorem cutS_eq (u : List Nat) (lo hi : Option Int) : cutS (wS u) lo hi = wS ((u.drop (HT.sIx u.length 0 lo)).take (HT.sIx u.length u.length hi - HT.sIx u.length 0 lo)) := by
  unfold cutS
  show (⟨_⟩ : Str) = ⟨_⟩
  rw [wS_len]
  congr 1
  congr 1
  show ((((u.map (97 + ·)).toArray).toList.drop _).take _) = _
  rw [List.map_take, List.map_drop]
theorem sIx_nat (n d k : Nat) : HT.sIx n d (some (k : Int)) = min k n := by
  unfold HT.sIx
  simp
  omega
theorem cut_take (u : List Nat) (k : Nat) : cutS (wS u) none (some (k : Int)) = wS (u.take k) := by
  rw [cutS_eq, sIx_nat]
  show wS ((u.drop 0).take (min k u.length - 0)) = _
  rw [List.drop_zero, Nat.sub_zero, show u.take (min k u.length) = u.take k from List.take_eq_take_iff.mpr (by omega)]
theorem cut_drop (u : List Nat) (k : Nat) : cutS (wS u) (some (k : Int)) none = wS (u.drop k) := by
  rw [cutS_eq, sIx_nat]
  show wS ((u.drop (min k u.length)).take (u.length - min k u.length)) = _
  congr 1
  by_cases h : k ≤ u.length
  · rw [Nat.min_eq_left h, List.take_of_length_le (by rw [List.length_drop]; exact Nat.le_refl _)]
  · have e : min k u.length = u.length := by omega
    rw [e, List.drop_of_length_le (Nat.le_refl _), List.drop_of_length_le (by omega), List.take_nil]
theorem cut_mid (u : List Nat) (k n : Nat) : cutS (wS u) (some (k : Int)) (some ((k + n : Nat) : Int)) = wS ((u.drop k).take n) := by
  rw [cutS_eq, sIx_nat, sIx_nat]
  congr 1
  by_cases h : k ≤ u.length
  · rw [Nat.min_eq_left h]
    exact List.take_eq_take_iff.mpr (by rw [List.length_drop]; omega)
  · have e : min k u.length = u.length := by omega
    have e2 : min (k + n) u.length = u.length := by omega
    rw [e, e2, List.drop_of_length_le (Nat.le_refl _), List.drop_of_length_le (by omega), List.take_nil, List.take_nil]
end KR

/-! Own layer: min of a list of new tuples (number, number, text), where equal numbers stand with equal texts. -/
namespace GM
open PySem PySem.Spec PyProof.Rows L2 Ob
open PySem.Sem (wp)

/-! ### the loop of min, with what is compared held by the heap -/
section
variable {prog : Program} {w : World} {A : Around} {R : Result → Shared → Prop} {I : Addr} {fp wr : List Addr} {n : Nat} {P : Nat → Value → Prop} {St : Nat → Heap → Prop}
/-- what stays where only the iterator and the list S of the two values are written -/
structure Kept (G : Heap → Prop) (wr : List Addr) (S : Addr) : Prop where
  go : ∀ h h', G h → (∀ b o, b ∉ wr → b ≠ S → h.get? b = some o → h'.get? b = some o) → G h'
theorem mini (W : Walks prog w A.in1 I fp wr n P St) {G : Heap → Prop} {S : Addr} (kg : Kept G wr S) (bt : Nat → Nat → Bool) (cmp : ∀ i j u v (s : Shared), G s.heap → P i u → P j v → RcOp .Lt A.in1 s u v (bt i j)) (out : S ∉ fp) :
    ∀ (k j : Nat) (s : Shared) (best : Value) (c : Nat), n - (j + 1) = k → j + 1 ≤ n → St (j + 1) s.heap → G s.heap → P (argBest bt j) best → s.heap.get? S = some { cls := .type "list", dict := none, data := .seq #[best, best] c, slots := #[] } →
      (∀ v h' tk, P (argBest bt (n - 1)) v → (∀ b o, b ∉ wr → b ≠ S → s.heap.get? b = some o → h'.get? b = some o) → R (.ok (.ret v)) { s with heap := h', toks := tk }) →
      codeAny (model prog w) A (.builtin "min.loop" ⟨[.ref I, .none, .ref S], []⟩) R s := by
  have outw : S ∉ wr := fun h => out (W.sub _ h)
  have nm : (toString "min" ++ toString ".loop" : String) = "min.loop" := by decide
  intro k
  induction k with
  | zero =>
    intro j s best c e1 e2 st g pb hS fin
    have e3 : j + 1 = n := by omega
    refine codeAny_builtin F.entry_min_loop ?_
    rw [Around.under_plainId F.plain_min_loop _]
    show wpAny _ A.in1 (seqItems? (.ref S) >>= _) _ _ s
    refine wpAny_bind (wpAny_seqItems hS rfl ?_)
    show wpAny _ A.in1 (tryCatch (pyNext (.ref I)) _ >>= _) _ _ s
    refine wpAny_bind (wpAny_tryCatch (W.done s _ _ (e3 ▸ st) fun h1 tk k1 => ?_))
    have hS1 := k1 S _ outw hS
    show wpAny _ A.in1 (updateSeq S (fun _ => #[]) >>= _) _ _ _
    refine wpAny_bind (wpAny_updateSeq hS1 rfl (wpAny_bind (wpAny_letGo (wpAny_pure ?_))))
    exact fin best _ tk (by rw [← e3]; exact pb) fun b o b1 b2 e => (Heap.get?_update_other _ _ (Ne.symm b2)).trans (k1 b o b1 e)
  | succ k ih =>
    intro j s best c e1 e2 st g pb hS fin
    have lt : j + 1 < n := by omega
    refine codeAny_builtin F.entry_min_loop ?_
    rw [Around.under_plainId F.plain_min_loop _]
    show wpAny _ A.in1 (seqItems? (.ref S) >>= _) _ _ s
    refine wpAny_bind (wpAny_seqItems hS rfl ?_)
    show wpAny _ A.in1 (tryCatch (pyNext (.ref I)) _ >>= _) _ _ s
    refine wpAny_bind (wpAny_tryCatch (W.item (j + 1) s _ _ lt st fun v h1 tk pv st1 k1 => ?_))
    have hS1 := k1 S _ outw hS
    have g1 : G h1 := kg.go _ _ g fun b o b1 _ e => k1 b o b1 e
    show wpAny _ A.in1 (tryCatch (holding [v, v] (richCompare .Lt v best >>= _)) _ >>= _) _ _ _
    refine wpAny_bind (wpAny_tryCatch (wpAny_holding (wpAny_bind (cmp (j + 1) (argBest bt j) v best { s with heap := h1, toks := tk } g1 pv pb prog w _ _ ?_))))
    refine wpAny_bind (wpAny_holding (wpAny_truthy_bool ?_))
    refine wpAny_bind (wpAny_letGo (wpAny_pure ?_))
    cases hb : bt (j + 1) (argBest bt j) with
    | true =>
      simp only [if_true]
      refine wpAny_bind (wpAny_updateSeq hS1 rfl (wpAny_bind (wpAny_letGo ?_)))
      rw [nm]
      have st2 := W.frame _ _ ((h1.update S fun ob => ob.mapSeq fun _ => #[v, v])) st1 fun b bf o e => (Heap.get?_update_other _ _ (fun h : S = b => out (by rw [h]; exact bf))).trans e
      refine wpAny_pure ⟨plainId_quiet F.plain_min_loop _, ih (j + 1) _ v _ (by omega) lt st2 (kg.go _ _ g1 fun b o _ b2 e => (Heap.get?_update_other _ _ (Ne.symm b2)).trans e) (by simp only [argBest, hb, if_true]; exact pv) (Heap.get?_update_self _ hS1 rfl) fun v2 h2 tk2 p2 k2 => ?_⟩
      exact fin v2 h2 tk2 p2 fun b o b1 b2 e => k2 b o b1 b2 ((Heap.get?_update_other _ _ (Ne.symm b2)).trans (k1 b o b1 e))
    | false =>
      simp only [Bool.false_eq_true, if_false]
      refine wpAny_bind (wpAny_letGo ?_)
      rw [nm]
      refine wpAny_pure ⟨plainId_quiet F.plain_min_loop _, ih (j + 1) _ best c (by omega) lt st1 g1 (by simp only [argBest, hb, Bool.false_eq_true, if_false]; exact pb) hS1 fun v2 h2 tk2 p2 k2 => ?_⟩
      exact fin v2 h2 tk2 p2 fun b o b1 b2 e => k2 b o b1 b2 (k1 b o b1 e)
theorem mini_first (W : Walks prog w A.in1 I fp wr n P St) {G : Heap → Prop} {S : Addr} (kg : Kept G wr S) (bt : Nat → Nat → Bool) (cmp : ∀ i j u v (s : Shared), G s.heap → P i u → P j v → RcOp .Lt A.in1 s u v (bt i j)) (out : S ∉ fp) (pos : 0 < n) {s : Shared} {c : Nat}
    (st : St 0 s.heap) (g : G s.heap) (hS : s.heap.get? S = some { cls := .type "list", dict := none, data := .seq #[] c, slots := #[] })
    (fin : ∀ v h' tk, P (argBest bt (n - 1)) v → (∀ b o, b ∉ wr → b ≠ S → s.heap.get? b = some o → h'.get? b = some o) → R (.ok (.ret v)) { s with heap := h', toks := tk }) :
    codeAny (model prog w) A (.builtin "min.loop" ⟨[.ref I, .none, .ref S], []⟩) R s := by
  have outw : S ∉ wr := fun h => out (W.sub _ h)
  have nm : (toString "min" ++ toString ".loop" : String) = "min.loop" := by decide
  refine codeAny_builtin F.entry_min_loop ?_
  rw [Around.under_plainId F.plain_min_loop _]
  show wpAny _ A.in1 (seqItems? (.ref S) >>= _) _ _ s
  refine wpAny_bind (wpAny_seqItems hS rfl ?_)
  show wpAny _ A.in1 (tryCatch (pyNext (.ref I)) _ >>= _) _ _ s
  refine wpAny_bind (wpAny_tryCatch (W.item 0 s _ _ pos st fun v h1 tk pv st1 k1 => ?_))
  have hS1 := k1 S _ outw hS
  have g1 : G h1 := kg.go _ _ g fun b o b1 _ e => k1 b o b1 e
  show wpAny _ A.in1 (updateSeq S (fun _ => #[v, v]) >>= _) _ _ _
  refine wpAny_bind (wpAny_updateSeq hS1 rfl ?_)
  rw [nm]
  have st2 := W.frame _ _ ((h1.update S fun ob => ob.mapSeq fun _ => #[v, v])) st1 fun b bf o e => (Heap.get?_update_other _ _ (fun h : S = b => out (by rw [h]; exact bf))).trans e
  refine wpAny_pure ⟨plainId_quiet F.plain_min_loop _, mini W kg bt cmp out _ 0 _ v _ rfl pos st2 (kg.go _ _ g1 fun b o _ b2 e => (Heap.get?_update_other _ _ (Ne.symm b2)).trans e) pv (Heap.get?_update_self _ hS1 rfl) fun v2 h2 tk2 p2 k2 => ?_⟩
  exact fin v2 h2 tk2 p2 fun b o b1 b2 e => k2 b o b1 b2 ((Heap.get?_update_other _ _ (Ne.symm b2)).trans (k1 b o b1 e))
end
/-- min(list) -/
theorem min_list {prog : Program} {w : World} {A : Around} {E : Value → Shared → Prop} {s : Shared} {l : Addr} {items : Array Value} {Q : Value → Shared → Prop} (hh : A.handled = none) (hl : s.heap.IsList l items) (pos : 0 < items.size) {G : Heap → Prop} (bt : Nat → Nat → Bool)
    (kg : ∀ h h', G h → (∀ b o, b < s.heap.objs.size → h.get? b = some o → h'.get? b = some o) → G h') (g : G s.heap)
    (cmp : ∀ i j u v (s1 : Shared), G s1.heap → items[i]? = some u → items[j]? = some v → RcOp .Lt A.in1 s1 u v (bt i j))
    (fin : ∀ v h' tk, items[argBest bt (items.size - 1)]? = some v → (∀ b o, s.heap.get? b = some o → h'.get? b = some o) → Q v { s with heap := h', toks := tk }) :
    wpAny (model prog w) A (call (.builtin "min") [.ref l]) Q E s := by
  have nm : (toString "min" ++ toString ".loop" : String) = "min.loop" := by decide
  have ll : l < s.heap.objs.size := by
    obtain ⟨o, ho, _⟩ := id hl
    exact Heap.lt_size ho
  refine call_function_tree F.kind_min F.plain_min F.entry_min (F.args_min1 _) ?_
  show wpAny _ A.in1 (Builtin.Builtins.bindParams "min" ["key", "default"] 0 ⟨[], []⟩ >>= _) _ _ s
  refine wpAny_bind (wpAny_of_eq (show Builtin.Builtins.bindParams "min" ["key", "default"] 0 ⟨[], []⟩ = pure [none, none] from rfl) ?_)
  refine wpAny_bind (wpAny_pure ?_)
  refine wpAny_bind (wpAny_pyIter_list hl ?_)
  refine wpAny_bind (wpAny_newObj_type ?_)
  rw [nm]
  have ne : l ≠ s.heap.objs.size := Nat.ne_of_lt ll
  have hh1 : A.in1.handled = none := hh
  have W := Walks.list (prog := prog) (w := w) (A := A.in1) hh1 s.heap.objs.size l ne items
  have sz : (s.heap.push { cls := .type "list_iterator", data := .fields #[.ref l, .int 0 0] }).objs.size = s.heap.objs.size + 1 := Heap.size_push ..
  refine wpAny_pure ⟨plainId_quiet F.plain_min_loop _, mini_first W (G := G) (S := (s.heap.push { cls := .type "list_iterator", data := .fields #[.ref l, .int 0 0] }).objs.size) ⟨fun h h' gh k => kg h h' gh fun b o bl e => k b o ?_ ?_ e⟩ bt cmp ?_ pos ?_ ?_ (Heap.get?_push_size _ rfl) fun v h' tk pv k => ?_⟩
  · intro hm
    have e : b = s.heap.objs.size := by simpa using hm
    rw [e] at bl
    exact Nat.lt_irrefl _ bl
  · intro e
    rw [e, sz] at bl
    exact absurd bl (by omega)
  · intro hm
    have e : (s.heap.push { cls := .type "list_iterator", data := .fields #[.ref l, .int 0 0] }).objs.size = s.heap.objs.size ∨ (s.heap.push { cls := .type "list_iterator", data := .fields #[.ref l, .int 0 0] }).objs.size = l := by simpa using hm
    rw [sz] at e
    rcases e with e | e
    · exact absurd e (Nat.succ_ne_self _)
    · rw [← e] at ll
      exact absurd ll (Nat.not_lt.mpr (Nat.le_succ _))
  · refine ⟨⟨_, Heap.get?_push_of_some _ (Heap.get?_push_size _ rfl), rfl, rfl⟩, hl.at fun o e => Heap.get?_push_of_some _ (Heap.get?_push_of_some _ e)⟩
  · exact kg _ _ g fun b o _ e => Heap.get?_push_of_some _ (Heap.get?_push_of_some _ e)
  · refine fin v h' tk pv fun b o e => k b o ?_ ?_ (Heap.get?_push_of_some _ (Heap.get?_push_of_some _ e))
    · intro hm
      have e2 : b = s.heap.objs.size := by simpa using hm
      have := Heap.lt_size e
      rw [e2] at this
      exact Nat.lt_irrefl _ this
    · intro e2
      have := Heap.lt_size e
      rw [e2, sz] at this
      exact absurd this (Nat.not_lt.mpr (Nat.le_succ _))

/-! ### tuples (number, number, text) -/
abbrev Row := Int × Int × Str
def lx (x y : Row) : Bool := decide (x.1 < y.1) || (decide (x.1 = y.1) && decide (x.2.1 < y.2.1))
theorem lx_false {x y : Row} (h : lx x y = false) : y.1 < x.1 ∨ (y.1 = x.1 ∧ y.2.1 ≤ x.2.1) := by
  simp only [lx, Bool.or_eq_false_iff, Bool.and_eq_false_iff, decide_eq_false_iff_not] at h
  omega
theorem lx_true {x y : Row} (h : lx x y = true) : x.1 < y.1 ∨ (x.1 = y.1 ∧ x.2.1 < y.2.1) := by
  simp only [lx, Bool.or_eq_true, Bool.and_eq_true, decide_eq_true_eq] at h
  exact h
theorem best_is (xs : Nat → Row) (bt : Nat → Nat → Bool) (hb : ∀ i j, bt i j = lx (xs i) (xs j)) : ∀ n, argBest bt n ≤ n ∧ ∀ i, i ≤ n → (xs (argBest bt n)).1 < (xs i).1 ∨ ((xs (argBest bt n)).1 = (xs i).1 ∧ (xs (argBest bt n)).2.1 ≤ (xs i).2.1)
  | 0 => ⟨Nat.le_refl _, fun i hi => by rw [Nat.le_zero.mp hi]; exact .inr ⟨rfl, Int.le_refl _⟩⟩
  | n + 1 => by
    obtain ⟨h1, h2⟩ := best_is xs bt hb n
    unfold argBest
    cases e : bt (n + 1) (argBest bt n) with
    | true =>
      simp only [if_true]
      refine ⟨Nat.le_refl _, fun i hi => ?_⟩
      have e' := lx_true ((hb _ _).symm.trans e)
      by_cases hn : i = n + 1
      · rw [hn]; exact .inr ⟨rfl, Int.le_refl _⟩
      · have := h2 i (by omega)
        omega
    | false =>
      simp only [Bool.false_eq_true, if_false]
      refine ⟨by omega, fun i hi => ?_⟩
      have e' := lx_false ((hb _ _).symm.trans e)
      by_cases hn : i = n + 1
      · rw [hn]; omega
      · exact h2 i (by omega)
def IsRow3 (h : Heap) (v : Value) (r : Row) : Prop := ∃ (t : Addr) (a b c : Tok), v = .ref t ∧ h.IsTuple t #[.int r.1 a, .int r.2.1 b, .str r.2.2 c]
theorem cmp_rows {A : Around} {s : Shared} {u v : Value} {x y : Row} (hx : IsRow3 s.heap u x) (hy : IsRow3 s.heap v y) (hu : A.units < cLine) (same : x.1 = y.1 → x.2.1 = y.2.1 → x.2.2 = y.2.2) : RcOp .Lt A s u v (lx x y) := by
  obtain ⟨t, a, b, c, rfl, tx⟩ := hx
  obtain ⟨t', a', b', c', rfl, ty⟩ := hy
  have q := RcOp.tuples_lt (e := fun j => match j with | 0 => x.1 == y.1 | 1 => x.2.1 == y.2.1 | _ => x.2.2 == y.2.2) (r := fun j => match j with | 0 => decide (x.1 < y.1) | 1 => decide (x.2.1 < y.2.1) | _ => decide (x.2.2.cps.toList < y.2.2.cps.toList)) tx ty hu ?_ ?_
  · have e : lexAt (fun j => match j with | 0 => x.1 == y.1 | 1 => x.2.1 == y.2.1 | _ => x.2.2 == y.2.2) (fun j => match j with | 0 => decide (x.1 < y.1) | 1 => decide (x.2.1 < y.2.1) | _ => decide (x.2.2.cps.toList < y.2.2.cps.toList))
        (decide ((#[.int x.1 a, .int x.2.1 b, .str x.2.2 c] : Array Value).size < (#[.int y.1 a', .int y.2.1 b', .str y.2.2 c'] : Array Value).size)) 0 (min (#[.int x.1 a, .int x.2.1 b, .str x.2.2 c] : Array Value).size (#[.int y.1 a', .int y.2.1 b', .str y.2.2 c'] : Array Value).size) = lx x y := by
      show lexAt _ _ false 0 3 = _
      rw [lexAt_succ, lexAt_succ, lexAt_succ, lexAt_zero]
      show (if (x.1 == y.1) = true then (if (x.2.1 == y.2.1) = true then (if (x.2.2 == y.2.2) = true then false else decide (x.2.2.cps.toList < y.2.2.cps.toList)) else decide (x.2.1 < y.2.1)) else decide (x.1 < y.1)) = _
      unfold lx
      by_cases h1 : x.1 = y.1
      · rw [if_pos (beq_iff_eq.mpr h1)]
        by_cases h2 : x.2.1 = y.2.1
        · rw [if_pos (beq_iff_eq.mpr h2), if_pos (by rw [same h1 h2]; exact beq_self_eq_true _)]
          simp [h1, h2]
        · rw [if_neg (fun z => h2 (beq_iff_eq.mp z))]
          simp [h1]
      · rw [if_neg (fun z => h1 (beq_iff_eq.mp z))]
        simp [h1]
    rw [e] at q
    exact q
  · intro j h1 h2
    match j, h1, h2 with
    | 0, _, _ => exact SeqAt.EqAt.int_int _ _ _ _
    | 1, _, _ => exact SeqAt.EqAt.int_int _ _ _ _
    | 2, _, _ => exact SeqAt.EqAt.str_str _ _ _ _
    | j + 3, h1, _ => exact absurd h1 (by simp)
  · intro j h1 h2 _
    match j, h1, h2 with
    | 0, _, _ => exact RcOp.lt_int _ _ _ _
    | 1, _, _ => exact RcOp.lt_int _ _ _ _
    | 2, _, _ => exact fun prog w E Q h => PyProof.Rows.lt_str h
    | j + 3, h1, _ => exact absurd h1 (by simp)
/-- min of a list of such tuples -/
def rMin3 : List V → Hp → VK → Prop := fun vs H Q => ∃ (a : Addr) (xs : List (Addr × Row)), vs = [.ref a] ∧ H a = some (.lst (xs.map fun x => V.ref x.1)) ∧ xs ≠ [] ∧ (∀ x ∈ xs, H x.1 = some (.tup [.int x.2.1, .int x.2.2.1, .str x.2.2.2])) ∧
  (∀ x ∈ xs, ∀ y ∈ xs, x.2.1 = y.2.1 → x.2.2.1 = y.2.2.1 → x.2.2.2 = y.2.2.2) ∧ ∀ x ∈ xs, (∀ y ∈ xs, x.2.1 < y.2.1 ∨ (x.2.1 = y.2.1 ∧ x.2.2.1 ≤ y.2.2.1)) → Q (.ref x.1) H
theorem cr_min3 {X : Cx} (hc : X.calm = true) (hu : X.A.units + 1 < cLine) : CallR X (.builtin "min") rMin3 := by
  intro pins s σ H vs us Q I r h
  obtain ⟨a, xs, rfl, ha, ne, ht, hs, q⟩ := h
  obtain ⟨its, rv, hl, _⟩ := I.list (.inl (.inl ha))
  rw [Vals.ref1 r]
  have ln : its.length = xs.length := by rw [← rv.length, List.length_map]
  have pos : 0 < its.toArray.size := by
    rw [List.size_toArray, ln]
    exact List.length_pos_iff.mpr ne
  have row : ∀ (i : Nat) (u : Value), its.toArray[i]? = some u → ∃ x, xs[i]? = some x ∧ u = .ref x.1 ∧ x ∈ xs ∧ IsRow3 s.heap u x.2 ∧ x.1 < s.heap.objs.size := by
    intro i u hu'
    have hu2 : its[i]? = some u := by simpa using hu'
    have il : i < xs.length := by rw [← ln]; exact (List.getElem?_eq_some_iff.mp hu2).1
    obtain ⟨x, hx⟩ : ∃ x, xs[i]? = some x := ⟨_, List.getElem?_eq_getElem il⟩
    obtain ⟨u', h1, h2⟩ := rv.get (i := i) (x := .ref x.1) (by rw [List.getElem?_map, hx]; rfl)
    rw [hu2] at h1
    cases h1
    cases h2
    have xm := List.mem_of_getElem? hx
    obtain ⟨it3, r3, p3, _⟩ := I.tuple (.inl (.inl (ht x xm)))
    obtain ⟨w1, w2, w3, e3, t1, t2, t3⟩ : ∃ w1 w2 w3, it3 = [w1, w2, w3] ∧ RelV (.int x.2.1) w1 ∧ RelV (.int x.2.2.1) w2 ∧ RelV (.str x.2.2.2) w3 := by
      cases r3 with
      | cons a1 r3 =>
        cases r3 with
        | cons a2 r3 =>
          cases r3 with
          | cons a3 r3 => cases r3; exact ⟨_, _, _, rfl, a1, a2, a3⟩
    obtain ⟨k1, rfl⟩ := t1
    obtain ⟨k2, rfl⟩ := t2
    obtain ⟨k3, rfl⟩ := t3
    subst e3
    have p4 : s.heap.IsTuple x.1 #[.int x.2.1 k1, .int x.2.2.1 k2, .str x.2.2.2 k3] := p3
    refine ⟨x, hx, rfl, xm, ⟨x.1, k1, k2, k3, rfl, p4⟩, ?_⟩
    obtain ⟨o, ho, _⟩ := id p4
    exact Heap.lt_size ho
  let f : Nat → Row := fun i => match xs[i]? with | some x => x.2 | none => (0, 0, "")
  have hf : ∀ {i x}, xs[i]? = some x → f i = x.2 := fun {i x} h => by show (match xs[i]? with | some x => x.2 | none => (0, 0, "")) = x.2; rw [h]
  refine min_list (I.ok.hd hc) hl.isList pos (G := fun h => ∀ b o, b < s.heap.objs.size → s.heap.get? b = some o → h.get? b = some o ∨ b = s.heap.objs.size) (fun i j => lx (f i) (f j)) (fun h h' gh k b o bl e => ?_) (fun b o _ e => .inl e) ?_ ?_
  · rcases gh b o bl e with h1 | h1
    · exact .inl (k b o bl h1)
    · exact .inr h1
  · intro i j u v s1 g1 hi hj
    obtain ⟨x, x1, rfl, x2, x3, x4⟩ := row i u hi
    obtain ⟨y, y1, rfl, y2, y3, y4⟩ := row j v hj
    have lift : ∀ {z : Addr × Row}, z.1 < s.heap.objs.size → IsRow3 s.heap (.ref z.1) z.2 → IsRow3 s1.heap (.ref z.1) z.2 := by
      rintro z zl ⟨t, a1, b1, c1, e, p⟩
      cases e
      refine ⟨z.1, a1, b1, c1, rfl, p.at fun o e => ?_⟩
      rcases g1 _ _ zl e with h1 | h1
      · exact h1
      · exact absurd zl (by rw [h1]; exact Nat.lt_irrefl _)
    rw [hf x1, hf y1]
    exact cmp_rows (lift x4 x3) (lift y4 y3) (by rw [Around.in1_units]; exact hu) (hs x x2 y y2)
  · intro v h' tk hv k
    obtain ⟨b1, b2⟩ := best_is f (fun i j => lx (f i) (f j)) (fun _ _ => rfl) (its.toArray.size - 1)
    obtain ⟨x, x1, rfl, x2, _, _⟩ := row _ _ hv
    refine ⟨.ref x.1, H, I.kept k, rfl, q x x2 fun y hy => ?_⟩
    obtain ⟨i, hi⟩ := List.mem_iff_getElem?.mp hy
    have il : i < xs.length := (List.getElem?_eq_some_iff.mp hi).1
    have := b2 i (by rw [List.size_toArray, ln]; omega)
    rw [hf x1, hf hi] at this
    exact this
end GM

/-! t[::-1] of a tuple -/
namespace GL
open PySem PySem.Spec PyProof.Rows L2 HT
theorem back_places (n : Nat) : Builtin.Slice.sliceAdjust none none (-1) (n : Int) = ((n : Int) - 1, -1) ∧ Builtin.Slice.slicePlaces ((n : Int) - 1) (-1) (-1) = n := by
  refine ⟨rfl, ?_⟩
  unfold Builtin.Slice.slicePlaces
  rw [if_neg (by decide)]
  by_cases h : (n : Int) - 1 > -1
  · rw [if_pos h]
    have e : ((n : Int) - 1 - -1 - 1) / (- -1) = (n : Int) - 1 := by
      rw [show ((n : Int) - 1 - -1 - 1) = (n : Int) - 1 by omega, Int.neg_neg, Int.ediv_one]
    rw [e]
    omega
  · rw [if_neg h]
    omega
theorem back_pick (xs : Array Value) : ((List.range xs.size).filterMap fun (k : Nat) => xs[(((xs.size : Nat) : Int) - 1 + (k : Int) * (-1)).toNat]?).toArray = xs.toList.reverse.toArray := by
  have e1 : (fun (k : Nat) => xs[(((xs.size : Nat) : Int) - 1 + (k : Int) * (-1)).toNat]?) = (fun i => xs[i]?) ∘ fun k => xs.size - 1 - k := by
    funext k
    show xs[_]? = xs[xs.size - 1 - k]?
    congr 1
    omega
  have e2 := pick_gen xs 0 xs.size
  have e3 : (fun (m : Nat) => xs[(((0 : Nat) : Int) + (m : Int) * 1).toNat]?) = fun i => xs[i]? := by
    funext m
    congr 1
    omega
  rw [e3] at e2
  have e4 : (List.range xs.size).filterMap (fun i => xs[i]?) = xs.toList := by
    have e5 : (List.range xs.size).filterMap (fun i => xs[i]?) = List.take xs.size xs.toList := by simpa using congrArg Array.toList e2
    rw [e5]
    exact List.take_of_length_le (by simp)
  rw [e1, ← List.filterMap_map, PySem.W.krv_range, List.filterMap_reverse, e4]
section
variable {prog : Program} {w : World} {A : Around} {E : Value → Shared → Prop} {s : Shared}
theorem back_applied {sl : Addr} {vc : Value} {n : Nat} {Q : Int × Int × Nat → Shared → Prop} (hs : s.heap.IsSliceOf sl .none .none vc) (pc : IsPart vc (some (-1))) (h : Q (((n : Int) - 1), -1, n) s) :
    wpAny (model prog w) A (Builtin.Slice.sliceApplied (.ref sl) (pure (n : Int))) Q E s := by
  obtain ⟨os, ho, hc, hd⟩ := id hs
  unfold Builtin.Slice.sliceApplied Builtin.Slice.sliceFields
  refine wpAny_bind (wpAny_bind (wpAny_field ho hd (x := .none) rfl (wpAny_bind (wpAny_field ho hd (x := .none) rfl (wpAny_bind (wpAny_field ho hd (x := vc) rfl (wpAny_pure ?_)))))))
  refine wpAny_bind (slicePart_ pc ?_)
  show wpAny _ _ (if ((-1 : Int) == 0) = true then _ else _) _ _ s
  rw [if_neg (by decide)]
  refine wpAny_bind (slicePart_ .none (wpAny_bind (slicePart_ .none (wpAny_bind (wpAny_pure ?_)))))
  show wpAny _ _ (match Builtin.Slice.sliceAdjust none none (-1) (n : Int) with | (lo, hi) => pure (lo, (-1 : Int), Builtin.Slice.slicePlaces lo hi (-1))) _ _ s
  rw [(back_places n).1]
  show wpAny _ _ (pure (((n : Int) - 1), (-1 : Int), Builtin.Slice.slicePlaces ((n : Int) - 1) (-1) (-1))) _ _ s
  rw [(back_places n).2]
  exact wpAny_pure h
theorem back_item {t sl : Addr} {xs : Array Value} {vc : Value} {Q : Value → Shared → Prop} (ht : IsTup s.heap t xs) (hs : s.heap.IsSliceOf sl .none .none vc) (pc : IsPart vc (some (-1)))
    (h : Q (.ref s.heap.objs.size) { s with heap := s.heap.push { cls := .type "tuple", data := .seq xs.toList.reverse.toArray } }) (hz : xs.size ≤ sizeLine) : wpAny (model prog w) A (getItem (.ref t) (.ref sl)) Q E s := by
  have ok : sizeOk (.seq xs.toList.reverse.toArray) := by
    show xs.toList.reverse.toArray.size ≤ sizeLine
    rw [List.size_toArray, List.length_reverse, Array.length_toList]
    exact hz
  obtain ⟨os, ho, hc, hd⟩ := id hs
  have ty : s.TypeIs (.ref sl) "slice" := ⟨os, ho, hc⟩
  unfold getItem
  try with_reducible refine wpAny_holding ?_
  first | refine wpAny_bind (wpAny_pure ?_) | skip
  refine wpAny_bind (wpAny_sequenceKey ht.typeIs (by decide) (wpAny_bind (wpAny_callSpecial?_slot (name := Str.ofString "__getitem__") ht.typeIs PyProof.Rows.slot_tuple_getitem
    (wpAny_call_entry PyProof.Rows.slot_tuple_getitem ht.typeIs entry_tuple_getitem ?_ (args_tuple_getitem _ _)))))
  show wpAny _ _ (Builtin.Tuple.tupleItemsOf (.ref t) >>= _) _ _ s
  refine wpAny_bind (tupleItemsOf_ ht (wpAny_bind (wpAny_typeOf ty ?_)))
  rw [if_pos (by decide)]
  refine wpAny_bind (back_applied hs pc ?_)
  have no : ¬ ((((xs.size : Nat) : Int) - 1 == 0 && (-1 : Int) == 1 && xs.size == xs.size) = true) := by
    rw [show ((-1 : Int) == 1) = false from rfl, Bool.and_false, Bool.false_and]
    exact Bool.false_ne_true
  show wpAny _ _ (if ((((xs.size : Nat) : Int) - 1 == 0 && (-1 : Int) == 1 && xs.size == xs.size) = true) then _ else _) _ _ s
  rw [if_neg no, back_pick]
  first
    | exact wpAny_bind (m := Builtin.Tuple.tupleExact _) (wpAny_newObj_type (wpAny_pure ⟨_, rfl, wpAny_pure h⟩) ok)
    | exact wpAny_bind (m := Builtin.Tuple.tupleExact _) (wpAny_newObj_type (wpAny_bind (wpAny_pure (wpAny_pure ⟨_, rfl, wpAny_pure h⟩))) ok)
    | exact wpAny_bind (wpAny_bind (m := Builtin.Tuple.tupleExact _) (wpAny_newObj_type (wpAny_pure (wpAny_pure ⟨_, rfl, wpAny_pure h⟩)) ok))
    | exact wpAny_bind (wpAny_bind (m := Builtin.Tuple.tupleExact _) (wpAny_newObj_type (wpAny_pure ⟨_, rfl, wpAny_pure h⟩) ok))
end
section
variable {X : Cx}
def tRevT (te : TE) : TE := fun σ H Q => te σ H fun x G => ∃ (a : Addr) (xs : List V), x = .ref a ∧ G a = some (.tup xs) ∧ ∀ p, G p = none → Q (.ref p) (upd G p (.tup xs.reverse))
theorem Vals.rev : ∀ {xs : List V} {us : List Value}, Vals xs us → Vals xs.reverse us.reverse
  | _, _, .nil => .nil
  | _, _, .cons r t => by
    rw [List.reverse_cons, List.reverse_cons]
    exact (Vals.rev t).append (.cons r .nil)
theorem pe_revT {e : Expr} {te : TE} {k : Nat} {p1 p2 p3 pos : Pos} (he : PE X e te) : PE X (.Subscript e (.Slice none none (some (.UnaryOp .USub (.Constant (.int 1) k p1) p2)) p3) pos) (tRevT te) := by
  refine ⟨fun pins s σ H Q I h => Subscript_ (thn (he.run pins s σ H _ I h) fun v s1 ⟨x, H1, I1, r1, a, xs, ex, hx, q⟩ => ?_)⟩
  subst ex
  cases r1
  have st : PO X (some (.UnaryOp .USub (.Constant (.int 1) k p1) p2)) (tPart (tUn (rU fun i => .int (-i)) (tC (.int 1)))) := po_some (pe_un un_neg pe_int)
  refine wpAny_Slice (thn (po_none.run pins s1 σ H1 (fun o G => o = none ∧ G = H1) I1 ⟨rfl, rfl⟩) fun vl s2 ⟨o2, H2, I2, pl, el, e2⟩ => ?_)
  cases el
  cases e2
  refine thn (po_none.run pins s2 σ H1 (fun o G => o = none ∧ G = H1) I2 ⟨rfl, rfl⟩) fun vu s3 ⟨o3, H3, I3, pu, eu, e3⟩ => ?_
  cases eu
  cases e3
  refine thn (st.run pins s3 σ H1 (fun o G => o = some (-1) ∧ G = H1) I3 ⟨1, rfl, -1, rfl, rfl, rfl⟩) fun vc s4 ⟨o4, H4, I4, pc, ec, e4⟩ => ?_
  cases ec
  cases e4
  have J : Inv X pins σ H1 { s4 with heap := s4.heap.push { cls := .type "slice", data := .fields #[vl, vu, vc] } } := I4.kept (t' := s4.toks) fun b ob z => Heap.get?_push_of_some _ z
  obtain ⟨its, o, n, r, t1, t2, t3⟩ := tup_at J hx
  have hz : its.length ≤ sizeLine := by
    obtain ⟨z, _⟩ := (show ObjOk X.prog X.w H1 _ a (.tup xs) from J.hok a _ hx)
    rw [← r.length]; exact z
  have tt : IsTup { s4 with heap := s4.heap.push { cls := .type "slice", data := .fields #[vl, vu, vc] } }.heap a its.toArray := ⟨o, t1, t2, n, t3⟩
  cases pl
  cases pu
  show wpAny (model X.prog X.w) X.A (subscriptTail e (.Slice none none (some (.UnaryOp .USub (.Constant (.int 1) k p1) p2)) p3) (.ref a) (.ref s4.heap.objs.size)) (EP X pins σ Q) X.xe { s4 with heap := s4.heap.push { cls := .type "slice", data := .fields #[.none, .none, vc] } }
  refine tail_any (ops := [.ref a, .ref s4.heap.objs.size]) tt.typeIs PyProof.Rows.slot_tuple_getitem.lookup ?_ (by with_unfolding_all rfl)
  refine back_item tt (Heap.IsSliceOf.new _ .none .none vc) pc ?_ (by rw [List.size_toArray]; exact hz)
  refine ⟨.ref _, _, J.laid (t' := s4.toks) (o := .tup xs.reverse) (fun b ob z => Heap.get?_push_of_some _ z) (Nat.le_refl _) ?_, rfl, q _ (J.hok.fresh (Nat.le_refl _))⟩
  refine ⟨by rw [List.length_reverse, r.length]; exact hz, its.reverse, Vals.rev r, ⟨_, Heap.get?_push_size _ rfl, rfl, _, rfl⟩⟩
end
end GL

namespace K28
open PySem L2 GL KC
def top (i : Nat) : Stmt := PySem.Challenge.pw_pairedaway_k28_changes.main.body.getD i (.Pass ⟨0, 0, 0, 0⟩)
abbrev sDeck : Stmt := top 3
abbrev sDraw : Stmt := top 4
abbrev sOne : Stmt := top 5
section
variable {P : Program} {w : World} {K : PySem.W.Frag} {mg : Str → Option Value} {base : Heap}
theorem scDeck : FnScope ["_law_script", "_law_cell"] ["_law_script"] (defScope sDeck) := ⟨rfl, rfl, rfl, by decide +kernel, rfl, by decide +kernel, by decide +kernel⟩
theorem ok_deck {f : Addr} {fd : FuncData} (F : Fun K "_law_deck" "_law_deck" sDeck f fd) (T : TxC mg) : FnOk P w K mg base CX0 1 f fd ["_law_script"] (spDeck K) := by
  refine F.ok scDeck (fun vs H Q E h => ?_) (fun cdv A outer s H vs Q E hr h => ?_)
  · obtain ⟨a, ns, rfl, _⟩ := h
    rfl
  obtain ⟨a, ns, rfl, hS, hl, q⟩ := h
  refine ⟨_, pss_one (ps_ret (pe_lst (pa_cons (pe_lc (own := [("_law_cell", 1)]) (g := gName 1) (tt := tYes) rfl scDeck.nd (pi_list (pe_slice sl_list (pv 0) po_none (po_some pe_int)))
      (blkOk_by (own := [("_law_cell", 1)]) (N := ["_law_script", "_law_cell"]) (sc := defScope sDeck) (by decide +kernel)) (fun _ _ _ _ _ => pg_name (i := 1) scDeck.nd rfl (Or.inl rfl)) (fun _ _ _ _ _ => pts_nil)
      (fun _ _ _ _ _ => pe_callB call_absS (by rfl) T.abs (by decide +kernel) (pa_cons (pv 1) pa_nil))) (pa_cons pe_int pa_nil)))), ?_⟩
  refine ⟨_, rfl, _, rfl, a, _, rfl, hS, fun p np => ?_⟩
  have isI : ∀ x ∈ cutV (ns.map V.int) none (some 63), ∃ i : Int, x = .int i := fun x hx => by
    obtain ⟨i, _, e⟩ := List.mem_map.mp (cut_mem hx)
    exact ⟨i, e.symm⟩
  have ll : (cutV (ns.map V.int) none (some 63)).length ≤ 63 := by
    have := cutV_length (ns.map V.int) none (some 63)
    rw [List.length_map] at this
    omega
  generalize cutV (ns.map V.int) none (some 63) = xs at isI ll
  have sp : Same H (upd H p (.lst xs)) := same_new np _
  refine ⟨p, rfl, ⟨_, .inl (.inl upd_same)⟩, fun L nL => lc_list (K := K) (a := p) (xs := xs) (fun i G => Same (upd H p (.lst xs)) G ∧ ∃ ys : List Int, G L = some (.lst (ys.map V.int)) ∧ ys.length = i ∧ ∀ y ∈ ys, 0 ≤ y)
    ⟨same_new nL _, [], upd_same, rfl, fun y z => nomatch z⟩ (fun i G _ h => .inl (.inl (h.1 _ _ upd_same))) (fun i x G hx h => ?_) fun G h => ?_⟩
  · obtain ⟨s1, ys, y1, y2, y3⟩ := h
    obtain ⟨z, rfl⟩ := isI x (List.mem_of_getElem? hx)
    have il : i < xs.length := (List.getElem?_eq_some_iff.mp hx).1
    refine ⟨rfl, _, rfl, z, rfl, _, y1, by rw [List.length_map, y2]; show i < 2 ^ 24; omega, same_grow nL s1 _, ys ++ [if z < 0 then -z else z], by rw [upd_same, List.map_append]; rfl, by rw [List.length_append, y2]; rfl, ?_⟩
    intro y hy
    rcases List.mem_append.mp hy with hy | hy
    · exact y3 y hy
    · rw [List.mem_singleton.mp hy]
      split <;> omega
  · obtain ⟨s1, ys, y1, y2, y3⟩ := h
    refine ⟨by show 2 ≤ 2 ^ 24; decide, fun d nd => ?_⟩
    have sG : Same H G := sp.trans s1
    have ndL : d ≠ L := fun e => by rw [e, y1] at nd; cases nd
    have nHL : H L = none := sp.free nL
    refine q d L _ (sG.trans (same_new nd _)) (sG.free nd) nHL ⟨ndL, ys, 0, upd_same, by rw [upd_ne ndL.symm]; exact y1, by omega, y3, Nat.le_refl _⟩
theorem scDraw : FnScope ["_law_deck_here", "_law_many", "_law_cell", "_law_at", "_law_mixed"] ["_law_deck_here", "_law_many"] (defScope sDraw) := ⟨rfl, rfl, rfl, by decide +kernel, rfl, by decide +kernel, by decide +kernel⟩
theorem ok_draw {f : Addr} {fd : FuncData} (F : Fun K "_law_draw" "_law_draw" sDraw f fd) (T : TxC mg) : FnOk P w K mg base CX0 1 f fd ["_law_deck_here", "_law_many"] spDraw := by
  refine F.ok scDraw (fun vs H Q E h => ?_) (fun cdv A outer s H vs Q E hr h => ?_)
  · obtain ⟨d, c, many, m, rfl, _⟩ := h
    rfl
  obtain ⟨d, c, many, m, rfl, D, hm, p1, p2, q⟩ := h
  refine ⟨_, pss_cons (ps_asg (pe_op op_add (pe_ix ix_list (pv 0) pe_int (fun _ _ => rfl)) pe_int) (pg_sub (pv 0) pe_int set_list))
    (pss_cons (ps_asg (pe_tup (pa_cons pe_int (pa_cons (pe_un un_neg pe_int) pa_nil))) (pg_tup (by rfl) (pgs_cons (pg_name (i := 2) scDraw.nd rfl (Or.inl rfl)) (pgs_cons (pg_name (i := 3) scDraw.nd rfl (Or.inl rfl)) pgs_nil))))
    (pss_cons (ps_if (pt_cmpR op_gt (pe_callB call_len_seq (by rfl) T.len PySem.boot_len (pa_cons (pe_ix ix_list (pv 0) pe_int (fun _ _ => rfl)) pa_nil)) pe_int (nomark _))
      (pss_cons (ps_set (i := 3) scDraw.nd rfl (Or.inl rfl) (pe_op op_mod (pe_callTy call_int1 (by rfl) T.int (by decide +kernel) (pa_cons (pe_ix ix_list (pv 0) pe_int (fun _ _ => rfl)) pa_nil)) (pe_callB call_len_seq (by rfl) T.len PySem.boot_len (pa_cons (pe_ix ix_list (pv 0) pe_int (fun _ _ => rfl)) pa_nil))))
      (pss_one (ps_set (i := 2) scDraw.nd rfl (Or.inl rfl) (pe_ix ix_list (pe_ix ix_list (pv 0) pe_int (fun _ _ => rfl)) (pv 3) (fun _ _ => rfl))))) pss_nil)
    (pss_cons (ps_if (pt_cmpR op_ge (pv 2) (pe_op op_pow pe_int pe_int) (nomark _))
      (pss_cons (ps_asg (pe_op op_fdiv (pe_callTy call_int1 (by rfl) T.int (by decide +kernel) (pa_cons (pv 2) pa_nil)) (pv 1)) (pg_sub (pe_ix ix_list (pv 0) pe_int (fun _ _ => rfl)) (pv 3) set_list))
      (pss_one (ps_ret (pe_op op_mod (pe_callTy call_int1 (by rfl) T.int (by decide +kernel) (pa_cons (pv 2) pa_nil)) (pv 1))))) pss_nil)
    (pss_cons (ps_set (i := 4) scDraw.nd rfl (Or.inl rfl) (pe_op op_add (pe_op op_add (pe_op op_mod (pe_callTy call_int1 (by rfl) T.int (by decide +kernel) (pa_cons (pv 2) pa_nil)) pe_int) (pe_op op_mul pe_int (pe_ix ix_list (pv 0) pe_int (fun _ _ => rfl)))) pe_int))
    (pss_one (ps_ret (pe_op op_mod (pe_callTy call_int1 (by rfl) T.int (by decide +kernel) (pa_cons (pe_op op_mod (pe_callTy call_int1 (by rfl) T.int (by decide +kernel) (pa_cons (pe_op op_pow (pv 4) pe_int) pa_nil)) pe_int) pa_nil)) (pv 1)))))))), ?_⟩
  obtain ⟨ne, L, n, h1, h2, h3, h4, h5⟩ := D
  -- the count goes up
  refine ⟨_, rfl, d, _, 1, .int n, rfl, rfl, .inl (.inl h1), rfl, _, _, rfl, rfl, _, rfl, d, _, 1, 1, rfl, rfl, h1, rfl, ?_⟩
  have e1 : (List.set [V.ref c, V.int n] 1 (V.int ((n : Int) + 1))) = [.ref c, .int ((n + 1 : Nat) : Int)] := rfl
  rw [e1]
  have g1 : upd H d (.lst [.ref c, .int ((n + 1 : Nat) : Int)]) d = some (.lst [.ref c, .int ((n + 1 : Nat) : Int)]) := upd_same
  have g2 : upd H d (.lst [.ref c, .int ((n + 1 : Nat) : Int)]) c = some (.lst (L.map V.int)) := by rw [upd_ne ne.symm]; exact h2
  have sH : Same (Hd d c H) (Hd d c (upd H d (.lst [.ref c, .int ((n + 1 : Nat) : Int)]))) := hd_put (.inl rfl) _
  generalize upd H d (.lst [.ref c, .int ((n + 1 : Nat) : Int)]) = H1 at g1 g2 sH
  have D1 : Deck H1 d c (m + 1) := ⟨ne, L, n + 1, g1, g2, h3, h4, Nat.succ_le_succ h5⟩
  -- the cell and its place
  refine ⟨_, rfl, by show 2 ≤ 2 ^ 24; decide, fun p np => ?_⟩
  replace sH := sH.trans (hd_new np (.tup [V.int 0, V.int (-1)]))
  have gt : upd H1 p (.tup [V.int 0, V.int (-1)]) p = some (.tup [V.int 0, V.int (-1)]) := upd_same
  replace g1 := same_new np (.tup [V.int 0, V.int (-1)]) _ _ g1
  replace g2 := same_new np (.tup [V.int 0, V.int (-1)]) _ _ g2
  replace D1 := D1.new np (.tup [V.int 0, V.int (-1)])
  generalize upd H1 p (.tup [V.int 0, V.int (-1)]) = H2 at sH gt g1 g2 D1
  refine ⟨p, _, rfl, .inl (.inl gt), rfl, _, _, rfl, _, _, rfl, rfl, ?_⟩
  refine ⟨_, rfl, d, _, 0, _, rfl, rfl, .inl (.inl g1), rfl, c, _, rfl, .inl (.inl (.inl g2)), _, _, rfl, rfl, _, rfl, ?_⟩
  have hL : ((L.map V.int).length : Int) = (L.length : Int) := by rw [List.length_map]
  refine ite2 (fun c0 => ?_) (fun c0 => ?_)
  · have lp : 0 < L.length := by have := of_decide_eq_true c0; rw [hL] at this; omega
    have k0 : 0 ≤ ((n + 1 : Nat) : Int) % ((L.map V.int).length : Int) := Int.emod_nonneg _ (by rw [hL]; omega)
    have k1 : ((n + 1 : Nat) : Int) % ((L.map V.int).length : Int) < (L.length : Int) := by
      have := Int.emod_lt_of_pos ((n + 1 : Nat) : Int) (b := ((L.map V.int).length : Int)) (by rw [hL]; omega)
      rw [hL] at this ⊢
      exact this
    have hk : ∀ z : Int, (10 : Int) ^ (18 : Int).toNat ≤ z → ∃ j, ixN (L.map V.int).length (((n + 1 : Nat) : Int) % ((L.map V.int).length : Int)) = some j ∧ j < L.length := fun _ _ => ⟨_, by unfold ixN; rw [if_pos k0, if_pos (by omega)], by omega⟩
    obtain ⟨j0, ej⟩ : ∃ j : Nat, ((n + 1 : Nat) : Int) % ((L.map V.int).length : Int) = (j : Int) := ⟨_, (Int.toNat_of_nonneg k0).symm⟩
    have jl : j0 < L.length := by rw [ej] at k1; omega
    obtain ⟨z, hz0⟩ : ∃ z, L[j0]? = some z := ⟨_, List.getElem?_eq_getElem jl⟩
    have hz : 0 ≤ z := h4 _ (List.mem_of_getElem? hz0)
    replace hk := hk z
    refine ⟨_, rfl, d, _, 1, _, rfl, rfl, .inl (.inl g1), rfl, .inl ⟨_, rfl, ?_⟩⟩
    refine ⟨_, rfl, d, _, 0, _, rfl, rfl, .inl (.inl g1), rfl, c, _, rfl, .inl (.inl (.inl g2)), _, _, rfl, rfl, (by rw [hL]; show (0 : Int) < L.length; omega), ?_⟩
    refine ⟨_, rfl, d, _, 0, _, rfl, rfl, .inl (.inl g1), rfl, _, rfl, c, _, _, _, rfl, rfl, .inl (.inl g2), at_of ej (by rw [List.getElem?_map, hz0]; rfl), ?_⟩
    refine ⟨_, rfl, _, _, rfl, rfl, ⟨by decide, by decide, by decide⟩, _, _, rfl, rfl, _, rfl, ite2 (fun c1 => ?_) (fun c1 => ?_)⟩
    · obtain ⟨j, hj, hj2⟩ := hk (of_decide_eq_true c1)
      refine ⟨_, rfl, .inl ⟨_, rfl, _, rfl, _, _, rfl, rfl, ⟨p1, p2⟩, _, rfl, d, _, 0, _, rfl, rfl, .inl (.inl g1), rfl, _, rfl, c, _, _, j, rfl, rfl, g2, hj, ?_⟩⟩
      refine ⟨_, rfl, .inl ⟨_, rfl, _, rfl, _, _, rfl, rfl, p1, ?_⟩⟩
      refine q _ _ (Int.emod_nonneg _ (by omega)) (Int.emod_lt_of_pos _ p1) ⟨ne, L.set j (z / many), n + 1, ?_, ?_, ?_, ?_, Nat.succ_le_succ h5⟩ (sH.trans (hd_put (.inr rfl) _))
      · rw [upd_ne ne]; exact g1
      · rw [upd_same, List.map_set]
      · rw [List.length_set]; exact h3
      · intro x hx
        rcases List.mem_or_eq_of_mem_set hx with hx | hx
        · exact h4 x hx
        · rw [hx]; exact Int.ediv_nonneg hz (by omega)
    · have b1 : 0 ≤ z % 2147483563 := Int.emod_nonneg _ (by decide)
      have b2 : z % 2147483563 < 2147483563 := Int.emod_lt_of_pos _ (by decide)
      refine ⟨_, rfl, .inl ⟨_, rfl, _, _, rfl, rfl, by show (0 : Int) < 2147483563; decide, _, rfl, d, _, 1, _, rfl, rfl, .inl (.inl g1), rfl, _, _, rfl, rfl, .inl ⟨by decide, by decide⟩, _, _, rfl, rfl, _, _, rfl, rfl, ?_⟩⟩
      refine ⟨_, rfl, _, _, rfl, rfl, ⟨by decide, by decide, ?_⟩, .inl ⟨_, rfl, _, _, rfl, rfl, by show (0 : Int) < 2147483629; decide, .inl ⟨_, rfl, _, rfl, _, _, rfl, rfl, p1, ?_⟩⟩⟩
      · show (z % 2147483563 + 8117 * ((n + 1 : Nat) : Int) + 3).natAbs < 2 ^ 64
        omega
      · exact q _ _ (Int.emod_nonneg _ (by omega)) (Int.emod_lt_of_pos _ p1) D1 sH
  · have hz : (0 : Int) ≤ 0 := Int.le_refl 0
    have hk : (10 : Int) ^ (18 : Int).toNat ≤ 0 → ∃ j, ixN (L.map V.int).length (-1) = some j ∧ j < L.length := fun h => absurd h (by decide)
    refine ⟨_, rfl, _, _, rfl, rfl, ⟨by decide, by decide, by decide⟩, _, _, rfl, rfl, _, rfl, ite2 (fun c1 => ?_) (fun c1 => ?_)⟩
    · obtain ⟨j, hj, hj2⟩ := hk (of_decide_eq_true c1)
      refine ⟨_, rfl, .inl ⟨_, rfl, _, rfl, _, _, rfl, rfl, ⟨p1, p2⟩, _, rfl, d, _, 0, _, rfl, rfl, .inl (.inl g1), rfl, _, rfl, c, _, _, j, rfl, rfl, g2, hj, ?_⟩⟩
      refine ⟨_, rfl, .inl ⟨_, rfl, _, rfl, _, _, rfl, rfl, p1, ?_⟩⟩
      refine q _ _ (Int.emod_nonneg _ (by omega)) (Int.emod_lt_of_pos _ p1) ⟨ne, L.set j ((0 : Int) / many), n + 1, ?_, ?_, ?_, ?_, Nat.succ_le_succ h5⟩ (sH.trans (hd_put (.inr rfl) _))
      · rw [upd_ne ne]; exact g1
      · rw [upd_same, List.map_set]
      · rw [List.length_set]; exact h3
      · intro x hx
        rcases List.mem_or_eq_of_mem_set hx with hx | hx
        · exact h4 x hx
        · rw [hx]; exact Int.ediv_nonneg hz (by omega)
    · have b1 : 0 ≤ (0 : Int) % 2147483563 := Int.emod_nonneg _ (by decide)
      have b2 : (0 : Int) % 2147483563 < 2147483563 := Int.emod_lt_of_pos _ (by decide)
      refine ⟨_, rfl, .inl ⟨_, rfl, _, _, rfl, rfl, by show (0 : Int) < 2147483563; decide, _, rfl, d, _, 1, _, rfl, rfl, .inl (.inl g1), rfl, _, _, rfl, rfl, .inl ⟨by decide, by decide⟩, _, _, rfl, rfl, _, _, rfl, rfl, ?_⟩⟩
      refine ⟨_, rfl, _, _, rfl, rfl, ⟨by decide, by decide, ?_⟩, .inl ⟨_, rfl, _, _, rfl, rfl, by show (0 : Int) < 2147483629; decide, .inl ⟨_, rfl, _, rfl, _, _, rfl, rfl, p1, ?_⟩⟩⟩
      · show ((0 : Int) % 2147483563 + 8117 * ((n + 1 : Nat) : Int) + 3).natAbs < 2 ^ 64
        omega
      · exact q _ _ (Int.emod_nonneg _ (by omega)) (Int.emod_lt_of_pos _ p1) D1 sH
end
section
variable {P : Program} {w : World} {K : PySem.W.Frag} {mg : Str → Option Value} {base : Heap}
theorem scOne : FnScope ["_law_deck_here", "_law_items"] ["_law_deck_here", "_law_items"] (defScope sOne) := ⟨rfl, rfl, rfl, by decide +kernel, rfl, by decide +kernel, by decide +kernel⟩
theorem ok_one {f fD : Addr} {fd fdD : FuncData} (F : Fun K "_law_one" "_law_one" sOne f fd) (T : TxC mg) (W : Dfn P w K mg base "_law_draw" 1 fD fdD ["_law_deck_here", "_law_many"] spDraw) :
    FnOk P w K mg base CX0 2 f fd ["_law_deck_here", "_law_items"] spOne := by
  refine F.ok scOne (fun vs H Q E h => ?_) (fun cdv A outer s H vs Q E hr h => ?_)
  · obtain ⟨d, c, a, xs, m, rfl, _⟩ := h
    rfl
  obtain ⟨d, c, a, xs, m, rfl, D, hm, ha, x0, x1, q⟩ := h
  refine ⟨_, pss_one (ps_ret (pe_ix ix_list (pv 1) (pe_call W.ok hr rfl W.m W.kp W.b .nil pass0 (pa_cons (pv 0) (pa_cons (pe_callB call_len_seq (by rfl) T.len PySem.boot_len (pa_cons (pv 1) pa_nil)) pa_nil))) (fun _ _ => rfl))), ?_⟩
  refine ⟨_, rfl, _, rfl, _, rfl, a, xs, rfl, .inl (.inl (.inl (hd_sub _ _ ha))), d, c, xs.length, m, rfl, D, hm, by omega, by omega, fun r G r0 r1 D2 s2 => ?_⟩
  obtain ⟨j, rfl⟩ : ∃ j : Nat, r = (j : Int) := ⟨r.toNat, by omega⟩
  have jl : j < xs.length := by omega
  obtain ⟨v, hv⟩ : ∃ v, xs[j]? = some v := ⟨_, List.getElem?_eq_getElem jl⟩
  exact ⟨a, xs, _, v, rfl, rfl, .inl (.inl (hd_sub _ _ (s2 _ _ ha))), atI_nat hv, q v G (List.mem_of_getElem? hv) D2 s2⟩
end
end K28

namespace K28
open PySem L2 GL KC GZ KW KR GM
abbrev sChange : Stmt := top 1
abbrev sWord : Stmt := top 6
abbrev sRule : Stmt := top 7
abbrev sChanged : Stmt := top 8
abbrev sFar : Stmt := top 9
abbrev sLaw : Stmt := top 10
structure Txt (mg : Str → Option Value) : Prop where
  c : TxC mg
  repr : mg "repr" = none
  min : mg "min" = none
  enum : mg "enumerate" = none
theorem pe_ixT {X : Cx} {a b : Expr} {ta tb : TE} {pos : Pos} (ha : PE X a ta) (hb : PE X b tb) (hs : PlainIx b) : PE X (.Subscript a b pos) (tOp (rIxT X.K) ta tb) := pe_ix ix_tup ha hb hs
def rJoinK (K : PySem.W.Frag) : V → List V → Hp → VK → Prop := fun x xs H Q => ∃ a p, ∃ ys : List Str, x = .str a ∧ xs = [.ref p] ∧ (SqL K H p (ys.map V.str) ∨ SqT K H p (ys.map V.str)) ∧ (ys.map (·.length)).sum + ys.length * a.length ≤ 16777216 ∧ Q (.str (Txt.join a ys)) H
theorem pe_joinK {X : Cx} {o e : Expr} {to te : TE} {apos pos : Pos} (ho : PE X o to) (he : PE X e te) (hs : starEach [e] X.env = [(false, eval e X.env)] := by rfl) (hbase : attributeBase o "join" X.env (eval o X.env) = eval o X.env := by rfl) (hline : (apos.endLine == pos.line) = true := by rfl) :
    PE X (.Call (.Attribute o "join" apos) [e] [] pos) (tM1 (rJoinK X.K) to te) := pe_join ho he hs hbase hline
section
variable {P : Program} {w : World} {K : PySem.W.Frag} {mg : Str → Option Value} {base : Heap}
theorem ok_oneT {f fD : Addr} {fd fdD : FuncData} (F : Fun K "_law_one" "_law_one" sOne f fd) (T : Txt mg) (W : Dfn P w K mg base "_law_draw" 1 fD fdD ["_law_deck_here", "_law_many"] spDraw) :
    FnOk P w K mg base CX0 2 f fd ["_law_deck_here", "_law_items"] spOneT := by
  refine F.ok scOne (fun vs H Q E h => ?_) (fun cdv A outer s H vs Q E hr h => ?_)
  · obtain ⟨d, c, z, m, rfl, _⟩ := h
    rfl
  obtain ⟨d, c, z, m, rfl, D, hm, x0, x1, q⟩ := h
  have zl : z.length ≤ 2 ^ 24 := by omega
  refine ⟨_, pss_one (ps_ret (pe_ix ix_str (pv 1) (pe_call W.ok hr rfl W.m W.kp W.b .nil pass0 (pa_cons (pv 0) (pa_cons (pe_callB call_len_str (by rfl) T.c.len PySem.boot_len (pa_cons (pv 1) pa_nil)) pa_nil))) (fun _ _ => rfl))), ?_⟩
  refine ⟨_, rfl, _, rfl, _, rfl, _, rfl, zl, d, c, (z.length : Int), m, rfl, D, hm, by omega, by omega, fun r G r0 r1 D2 s2 => ?_⟩
  obtain ⟨j, rfl⟩ : ∃ j : Nat, r = (j : Int) := ⟨r.toNat, by omega⟩
  have jl : j < z.cps.toList.length := by
    rw [Array.length_toList]
    show j < z.length
    omega
  obtain ⟨k, hk⟩ : ∃ k, z.cps.toList[j]? = some k := ⟨_, List.getElem?_eq_getElem jl⟩
  exact ⟨_, _, k, rfl, rfl, zl, atI_nat hk, q k G (List.mem_of_getElem? hk) D2 s2⟩
theorem scWd : FnScope ["_law_deck_here", "_law_letters", "_law_most", "_law_k"] ["_law_deck_here", "_law_letters", "_law_most"] (defScope sWord) := ⟨rfl, rfl, rfl, by decide +kernel, rfl, by decide +kernel, by decide +kernel⟩
theorem ok_word {f fD fO : Addr} {fd fdD fdO : FuncData} (F : Fun K "_law_word" "_law_word" sWord f fd) (T : Txt mg) (W : Dfn P w K mg base "_law_draw" 1 fD fdD ["_law_deck_here", "_law_many"] spDraw)
    (O : Dfn P w K mg base "_law_one" 2 fO fdO ["_law_deck_here", "_law_items"] spOneT) : FnOk P w K mg base CX0 3 f fd ["_law_deck_here", "_law_letters", "_law_most"] spWord := by
  refine F.ok scWd (fun vs H Q E h => ?_) (fun cdv A outer s H vs Q E hr h => ?_)
  · obtain ⟨d, c, l, most, m, rfl, _⟩ := h
    rfl
  obtain ⟨d, c, l, most, m, rfl, D, hm, l1, l4, hmo, q⟩ := h
  have hr1 : Room 1 _ := hr.mono (by decide)
  refine ⟨_, pss_one (ps_ret (pe_join pe_str (pe_lc (own := [("_law_k", 3)]) (g := gName 3) (tt := tYes) rfl scWd.nd (pi_range1 rfl T.c.range (pa_cons (pe_call W.ok hr1 rfl W.m W.kp W.b .nil pass0 (pa_cons (pv 0) (pa_cons (pe_op op_add (pv 2) pe_int) pa_nil))) pa_nil))
      (blkOk_by (own := [("_law_k", 3)]) (N := ["_law_deck_here", "_law_letters", "_law_most", "_law_k"]) (sc := defScope sWord) (by decide +kernel)) (fun _ _ _ _ _ => pg_name (i := 3) scWd.nd rfl (Or.inl rfl)) (fun _ _ _ _ _ => pts_nil)
      (fun _ _ _ _ _ => pe_call O.ok hr rfl O.m O.kp O.b .nil pass0 (pa_cons (pv 0) (pa_cons (pe_slice sl_str pe_str po_none (po_some (pv 1))) pa_nil)))))), ?_⟩
  refine ⟨⟨_, rfl⟩, _, rfl, _, rfl, _, _, rfl, rfl, d, c, (most : Int) + 1, m, rfl, D, by omega, by omega, by omega, fun r G r0 r1 D1 s1 => ?_⟩
  obtain ⟨n, rfl⟩ : ∃ n : Nat, r = (n : Int) := ⟨r.toNat, by omega⟩
  refine ⟨n, rfl, by omega, by omega, fun L nL => lc_range (lo := 0) (n := n) (fun i G' => Deck G' d c (m + 1 + i) ∧ Same (Hd d c G) (Hd d c G') ∧ ∃ u : List Nat, G' L = some (.lst ((u.map fun k => (⟨#[k]⟩ : Str)).map V.str)) ∧ u.length = i ∧ ∀ k ∈ u, k ∈ (wS (List.range l)).cps.toList)
    ⟨D1.new nL _, hd_new nL _, [], upd_same, rfl, fun j h => nomatch h⟩ ?_ ?_⟩
  · rintro i G' hi ⟨D2, s2, u, u1, u2, u3⟩
    have fL := D1.free nL
    refine ⟨rfl, _, rfl, _, rfl, l, rfl, _, rfl, by decide, d, c, wS (List.range l), m + 1 + i, ?_, D2, by omega, by rw [wS_len, List.length_range]; omega, by rw [wS_len, List.length_range]; omega, fun j G2 hj D3 s3 => ?_⟩
    · show [V.ref d, V.str (cutS ("abcd" : Str) none (some (l : Int)))] = _
      rw [cut_abcd l l1 l4]
    · refine ⟨_, hd_sub _ _ (s3 _ _ (hd_of u1 fL.1 fL.2)), ?_, D3.put fL.1 fL.2 _, hd_grow (hd_none nL) (s2.trans s3) _, u ++ [j], ?_, by rw [List.length_append, u2]; rfl, ?_⟩
      · rw [List.length_map, List.length_map, u2]
        show i < 2 ^ 24
        omega
      · rw [upd_same, List.map_append, List.map_append]; rfl
      · intro k hk
        rcases List.mem_append.mp hk with hk | hk
        · exact u3 k hk
        · rw [List.mem_singleton.mp hk]; exact hj
  · rintro G' ⟨D2, s2, u, u1, u2, u3⟩
    obtain ⟨w', rfl, hw⟩ := ws_of l u u3
    refine ⟨_, L, _, rfl, rfl, .inl (.inl (.inl u1)), ?_, ?_⟩
    · rw [len_c]
      simp only [List.length_map] at u2 ⊢
      show w'.length + w'.length * 0 ≤ 16777216
      omega
    · rw [join_c]
      exact q w' G' hw (by rw [List.length_map] at u2; omega) (D2.mono (by omega)) (s1.trans s2)

/-! ### a rule that is drawn -/
/-- the scope of the outer comprehension -/
def scW : Scope := match (defBody sRule).getD 1 sRule with
  | Stmt.For _ _ b _ _ => (match b.getD 1 sRule with | Stmt.Assign _ e _ => (match e with | Expr.ListComp _ _ sc _ => sc | _ => defScope sRule) | _ => defScope sRule)
  | _ => defScope sRule
abbrev NRu : List Str := ["_law_deck_here", "_law_letters", "_law_found", "_law_seen", "_law_k", "_law_size", "_law_one_here", "_law_other", "_law_j", "_law_way"]
theorem scRu : FnScope ["_law_deck_here", "_law_letters", "_law_found", "_law_seen", "_law_k", "_law_size", "_law_one_here", "_law_other", "_law_j", "_law_way"] ["_law_deck_here", "_law_letters"] (defScope sRule) := ⟨rfl, rfl, rfl, by decide +kernel, rfl, by decide +kernel, by decide +kernel⟩
/-- sep.join(xs), by its name -/
theorem ok_rule {f fD fO : Addr} {fd fdD fdO : FuncData} (F : Fun K "_law_rule" "_law_rule" sRule f fd) (T : Txt mg) (W : Dfn P w K mg base "_law_draw" 1 fD fdD ["_law_deck_here", "_law_many"] spDraw)
    (O : Dfn P w K mg base "_law_one" 2 fO fdO ["_law_deck_here", "_law_items"] spOneT) : FnOk P w K mg base CX0 3 f fd ["_law_deck_here", "_law_letters"] spRule := by
  refine F.ok scRu (fun vs H Q E h => ?_) (fun cdv A outer s H vs Q E hr h => ?_)
  · obtain ⟨d, c, l, m, rfl, _⟩ := h
    rfl
  obtain ⟨d, c, l, m, rfl, D, hm, l1, l4, q⟩ := h
  have hr1 : Room 1 _ := hr.mono (by decide)
  refine ⟨_, pss_cons (ps_par (i := 2) (j := 3) (by rfl) scRu.nd rfl rfl (by decide) rfl rfl (pa_cons (pe_lst pa_nil) (pa_cons (pe_lst pa_nil) pa_nil)) (by rfl))
    (pss_cons (ps_for PassesOwn.never rfl (pi_range1 rfl T.c.range (pa_cons (pe_call W.ok hr1 rfl W.m W.kp W.b .nil pass0 (pa_cons (pv 0) (pa_cons pe_int pa_nil))) pa_nil)) (pg_name (i := 4) scRu.nd rfl (Or.inl rfl))
      (pss_cons (ps_set (i := 5) scRu.nd rfl (Or.inr rfl) (pe_op op_add pe_int (pe_call W.ok hr1 rfl W.m W.kp W.b .nil pass0 (pa_cons (pv 0) (pa_cons pe_int pa_nil)))))
      (pss_cons (ps_asg (pe_lc (own := [("_law_way", 9)]) (g := gName 9) (tt := tYes) rfl scRu.nd (pi_range1 rfl T.c.range (pa_cons pe_int pa_nil))
          (blkOk_by (own := [("_law_way", 9)]) (N := NRu) (sc := defScope sRule) (by decide +kernel)) (fun _ _ _ _ _ => pg_name (i := 9) scRu.nd rfl (Or.inl rfl)) (fun _ _ _ _ _ => pts_nil)
          (fun _ _ _ _ _ => show PE _ _ (tM1 (rJoinK K) _ _) from pe_joinK pe_str (pe_lc (own := [("_law_j", 8)]) (g := gName 8) (tt := tYes) rfl scRu.nd (pi_range1 rfl T.c.range (pa_cons (pv 5) pa_nil))
            (blkOk_by (own := [("_law_j", 8)]) (N := NRu) (sc := relS scW (defScope sRule)) (by decide +kernel)) (fun _ _ _ _ _ => pg_name (i := 8) scRu.nd rfl (Or.inl rfl)) (fun _ _ _ _ _ => pts_nil)
            (fun _ _ _ _ _ => pe_call O.ok hr rfl O.m O.kp O.b .nil pass0 (pa_cons (pv 0) (pa_cons (pe_slice sl_str pe_str po_none (po_some (pv 1))) pa_nil))))))
        (pg_unl (by rfl) (pgs_cons (pg_name (i := 6) scRu.nd rfl (Or.inl rfl)) (pgs_cons (pg_name (i := 7) scRu.nd rfl (Or.inl rfl)) pgs_nil))))
      (pss_one (ps_if (PW.pt (pw_and (pt_cmpR op_lt (pe_callB call_len_seq (by rfl) T.c.len PySem.boot_len (pa_cons (pv 2) pa_nil)) pe_int (nomark _)) (pw_and (pt_cmpR op_ne (pv 6) (pv 7) (nomark _)) (pw_and (pt_cmpR op_notIn_seq (pv 6) (pv 3) (by rfl)) (pw_and1 (pt_cmpR op_notIn_seq (pv 7) (pv 3) (by rfl)))))))
        (pss_cons (ps_expr (pe_bm PySem.F.plainAttrs_list PySem.F.slot_list_append PySem.F.type_list_append mt_append (pv 2) (pa_cons (pe_tup (pa_cons (pv 6) (pa_cons (pv 7) pa_nil))) pa_nil)))
        (pss_one (ps_set (i := 3) scRu.nd rfl (Or.inl rfl) (pe_op op_cat (pv 3) (pe_lst (pa_cons (pv 6) (pa_cons (pv 7) pa_nil))))))) pss_nil)))))
    (pss_one (ps_ret (pe_callTy call_tuple_of (by rfl) T.c.tuple (by decide +kernel) (pa_cons (pv 2) pa_nil))))), ?_⟩
  refine ⟨by show 0 ≤ 2 ^ 24; decide, fun lf nlf => ⟨by show 0 ≤ 2 ^ 24; decide, fun ls nls => ⟨_, _, rfl, ?_⟩⟩⟩
  have D2 := (D.new nlf (.lst [])).new nls (.lst [])
  have ff := D.free nlf
  have fs := (D.new nlf (.lst [])).free nls
  have ne : ls ≠ lf := fun e => by rw [e, upd_same] at nls; cases nls
  have gf : Hd d c (upd (upd H lf (.lst [])) ls (.lst [])) lf = some (.lst []) := hd_of (by rw [upd_ne ne.symm]; exact upd_same) ff.1 ff.2
  have gs : Hd d c (upd (upd H lf (.lst [])) ls (.lst [])) ls = some (.lst []) := hd_of upd_same fs.1 fs.2
  have s0 : Same (Hd d c H) (Hd d c (upd (upd H lf (.lst [])) ls (.lst []))) := (hd_new nlf _).trans (hd_new nls _)
  have nHf : Hd d c H lf = none := hd_none nlf
  generalize upd (upd H lf (.lst [])) ls (.lst []) = H2 at D2 gf gs s0
  refine ⟨_, rfl, d, c, 10, _, rfl, D2, by omega, by decide, by decide, fun r G0 r0 r1 D0 sd0 => ?_⟩
  obtain ⟨n, rfl⟩ : ∃ n : Nat, r = (n : Int) := ⟨r.toNat, by omega⟩
  refine ⟨n, rfl, by omega, by omega, for_range (lo := 0) (n := n) (fun i σ G => ∃ (k4 k5 k6 k7 : Option V) (sd : Addr) (ts : List Addr) (rs : List Pr) (ss : List Str), σ = [some (.ref d), some (.int l), some (.ref lf), some (.ref sd), k4, k5, k6, k7, none, none] ∧
      Deck G d c (m + 1 + 7 * i) ∧ Same (Hd d c H) (Hd d c G) ∧ Hd d c G lf = some (.lst (ts.map V.ref)) ∧ ts.length = rs.length ∧ (∀ (i : Nat) (p : Pr), rs[i]? = some p → ∃ t : Addr, ts[i]? = some t ∧ Hd d c G t = some (.tup [.str (wS p.1), .str (wS p.2)])) ∧
      Hd d c G sd = some (.lst (ss.map V.str)) ∧ ss.length ≤ 2 * i ∧ Rul l rs ∧ sd ≠ lf)
    ⟨none, none, none, none, ls, [], [], [], rfl, D0, s0.trans sd0, sd0 _ _ gf, rfl, (fun i p h => by cases h), sd0 _ _ gs, Nat.zero_le _, ⟨Nat.zero_le _, fun p h => nomatch h⟩, ne⟩ ?_ ?_⟩
  · rintro i σ G hi ⟨k4, k5, k6, k7, sd, ts, rs, ss, rfl, DG, sG, g1, hl, h3, g2, sl, R, nsd⟩
    refine ⟨_, rfl, d, c, 3, _, rfl, DG, by omega, by decide, by decide, fun r G1 q0 q1 D1 s1 => ⟨_, _, rfl, rfl, ?_⟩⟩
    obtain ⟨sz, rfl⟩ : ∃ sz : Nat, r = (sz : Int) := ⟨r.toNat, by omega⟩
    refine ⟨2, rfl, by decide, by decide, fun L nL => lc_range (lo := 0) (n := 2) (fun j G' => Deck G' d c (m + 1 + 7 * i + 1 + 3 * j) ∧ Same (Hd d c G1) (Hd d c G') ∧ ∃ us : List (List Nat), G' L = some (.lst ((us.map wS).map V.str)) ∧ us.length = j ∧ ∀ u ∈ us, u.length = 1 + sz ∧ ∀ x ∈ u, x < l)
      ⟨D1.new nL _, hd_new nL _, [], upd_same, rfl, fun u h => nomatch h⟩ ?_ ?_⟩
    · rintro j G2 hj ⟨D2', s2, us, u1, u2, u3⟩
      have fL := D1.free nL
      refine ⟨rfl, ⟨_, rfl⟩, _, rfl, (1 + sz : Nat), rfl, by omega, by omega, fun L2 nL2 => lc_range (lo := 0) (n := 1 + sz) (fun q G' => Deck G' d c (m + 1 + 7 * i + 1 + 3 * j + q) ∧ Same (Hd d c G2) (Hd d c G') ∧ ∃ v : List Nat, G' L2 = some (.lst ((v.map fun k => (⟨#[k]⟩ : Str)).map V.str)) ∧ v.length = q ∧ ∀ k ∈ v, k ∈ (wS (List.range l)).cps.toList)
        ⟨D2'.new nL2 _, hd_new nL2 _, [], upd_same, rfl, fun u h => nomatch h⟩ ?_ ?_⟩
      · rintro q' G3 hq ⟨D3, s3, v, v1, v2, v3⟩
        have fL2 := D2'.free nL2
        refine ⟨rfl, _, rfl, _, rfl, l, rfl, _, rfl, by decide, d, c, wS (List.range l), _, ?_, D3, by omega, by rw [wS_len, List.length_range]; omega, by rw [wS_len, List.length_range]; omega, fun k G4 hk D4 s4 => ?_⟩
        · show [V.ref d, V.str (cutS ("abcd" : Str) none (some (l : Int)))] = _
          rw [cut_abcd l l1 l4]
        refine ⟨_, hd_sub _ _ (s4 _ _ (hd_of v1 fL2.1 fL2.2)), ?_, D4.put fL2.1 fL2.2 _, hd_grow (hd_none nL2) (s3.trans s4) _, v ++ [k], ?_, by rw [List.length_append, v2]; rfl, ?_⟩
        · rw [List.length_map, List.length_map, v2]
          show q' < 2 ^ 24
          omega
        · rw [upd_same, List.map_append, List.map_append]; rfl
        · intro x hx
          rcases List.mem_append.mp hx with hx | hx
          · exact v3 x hx
          · rw [List.mem_singleton.mp hx]; exact hk
      · rintro G3 ⟨D3, s3, v, v1, v2, v3⟩
        obtain ⟨w', rfl, hw⟩ := ws_of l v v3
        refine ⟨_, L2, _, rfl, rfl, .inl (.inl (.inl v1)), ?_, ?_⟩
        · rw [len_c]
          simp only [List.length_map] at v2 ⊢
          show w'.length + w'.length * 0 ≤ 16777216
          omega
        rw [join_c]
        refine ⟨_, hd_sub _ _ (s3 _ _ (hd_of u1 fL.1 fL.2)), ?_, (D3.mono (by omega)).put fL.1 fL.2 _, hd_grow (hd_none nL) (s2.trans s3) _, us ++ [w'], ?_, by rw [List.length_append, u2]; rfl, ?_⟩
        · rw [List.length_map, List.length_map, u2]
          show j < 2 ^ 24
          omega
        · rw [upd_same, List.map_append, List.map_append]; rfl
        · intro u hu
          rcases List.mem_append.mp hu with hu | hu
          · exact u3 u hu
          · rw [List.mem_singleton.mp hu]
            rw [List.length_map] at v2
            exact ⟨v2, hw⟩
    · rintro G2 ⟨D2', s2, us, u1, u2, u3⟩
      obtain ⟨a, b, rfl⟩ : ∃ a b, us = [a, b] := by
        match us, u2 with
        | [a, b], _ => exact ⟨a, b, rfl⟩
      obtain ⟨a1, a2⟩ := u3 a (by simp)
      obtain ⟨b1, b2⟩ := u3 b (by simp)
      have sH := s1.trans s2
      have g1' := sH _ _ g1
      have g2' := sH _ _ g2
      have f1 := hd_some g1'
      refine ⟨L, _, rfl, .inl (.inl u1), rfl, _, _, rfl, _, _, rfl, rfl, ?_⟩
      have stay : ∃ (k4 k5 k6 k7 : Option V) (sd' : Addr) (ts' : List Addr) (rs' : List Pr) (ss' : List Str), [some (V.ref d), some (V.int l), some (V.ref lf), some (V.ref sd), some (V.int (0 + i)), some (V.int (1 + sz)), some (V.str (wS a)), some (V.str (wS b)), none, none] = [some (.ref d), some (.int l), some (.ref lf), some (.ref sd'), k4, k5, k6, k7, none, none] ∧
          Deck G2 d c (m + 1 + 7 * (i + 1)) ∧ Same (Hd d c H) (Hd d c G2) ∧ Hd d c G2 lf = some (.lst (ts'.map V.ref)) ∧ ts'.length = rs'.length ∧ (∀ (i : Nat) (p : Pr), rs'[i]? = some p → ∃ t : Addr, ts'[i]? = some t ∧ Hd d c G2 t = some (.tup [.str (wS p.1), .str (wS p.2)])) ∧
          Hd d c G2 sd' = some (.lst (ss'.map V.str)) ∧ ss'.length ≤ 2 * (i + 1) ∧ Rul l rs' ∧ sd' ≠ lf :=
        ⟨_, _, _, _, sd, ts, rs, ss, rfl, D2'.mono (by omega), sG.trans sH, g1', hl, (fun i p e => let ⟨t, x, y⟩ := h3 i p e; ⟨t, x, sH _ _ y⟩), g2', by omega, R, nsd⟩
      have flat : (ss.map V.str).all flatV = true := by rw [List.all_eq_true]; intro x hx; obtain ⟨y, _, rfl⟩ := List.mem_map.mp hx; rfl
      refine ⟨_, rfl, lf, _, rfl, .inl (.inl (.inl f1.1)), _, _, rfl, rfl, _, rfl, ite2 (fun c1 => ?_) (fun c1 => iteF stay)⟩
      refine ⟨_, rfl, _, rfl, rfl, _, rfl, ite2 (fun c2 => ?_) (fun c2 => iteF stay)⟩
      refine ⟨_, rfl, _, rfl, sd, _, rfl, .inl (.inl (.inl (hd_sub _ _ g2'))), rfl, flat, _, rfl, ite2 (fun c3 => ?_) (fun c3 => iteF stay)⟩
      refine ⟨_, rfl, _, rfl, sd, _, rfl, .inl (.inl (.inl (hd_sub _ _ g2'))), rfl, flat, _, rfl, ite2 (fun c4 => ?_) (fun c4 => stay)⟩
      have t6 : ts.length < 6 := by
        have := of_decide_eq_true c1
        rw [List.length_map] at this
        omega
      have ab : a ≠ b := fun e => by
        rw [e] at c2
        simp at c2
      refine ⟨_, rfl, .inl ⟨rfl, _, .inl (.inl f1.1)⟩, _, rfl, _, rfl, by show 2 ≤ 2 ^ 24; decide, fun t nt => ?_⟩
      have D3 := D2'.new nt (.tup [V.str (wS a), V.str (wS b)])
      have s3 : Same (Hd d c G2) (Hd d c (upd G2 t (.tup [V.str (wS a), V.str (wS b)]))) := hd_new nt _
      have ft := D2'.free nt
      have gt : Hd d c (upd G2 t (.tup [V.str (wS a), V.str (wS b)])) t = some (.tup [V.str (wS a), V.str (wS b)]) := hd_of upd_same ft.1 ft.2
      have tf : t ≠ lf := fun e => by rw [e, f1.1] at nt; cases nt
      generalize upd G2 t (.tup [V.str (wS a), V.str (wS b)]) = G3 at D3 s3 gt
      have g1'' := s3 _ _ g1'
      have g2'' := s3 _ _ g2'
      refine ⟨lf, _, _, rfl, rfl, (hd_some g1'').1, by rw [List.length_map]; show _ < 2 ^ 24; omega, ?_⟩
      have e1 : ts.map V.ref ++ [V.ref t] = (ts ++ [t]).map V.ref := by rw [List.map_append]; rfl
      rw [e1]
      have D4 := D3.put f1.2.1 f1.2.2 (.lst ((ts ++ [t]).map V.ref))
      have s4 : Same (Hd d c H) (Hd d c (upd G3 lf (.lst ((ts ++ [t]).map V.ref)))) := hd_grow nHf (sG.trans (sH.trans s3)) _
      have g4 : Hd d c (upd G3 lf (.lst ((ts ++ [t]).map V.ref))) lf = some (.lst ((ts ++ [t]).map V.ref)) := hd_of upd_same f1.2.1 f1.2.2
      have keep : ∀ (x : Addr) (o : HO), x ≠ lf → Hd d c G3 x = some o → Hd d c (upd G3 lf (.lst ((ts ++ [t]).map V.ref))) x = some o := fun x o nx hx => by
        obtain ⟨y1, y2, y3⟩ := hd_some hx
        exact hd_of (by rw [upd_ne nx]; exact y1) y2 y3
      have h4 : ∀ (i : Nat) (p : Pr), (rs ++ [(a, b)])[i]? = some p → ∃ t' : Addr, (ts ++ [t])[i]? = some t' ∧ Hd d c (upd G3 lf (.lst ((ts ++ [t]).map V.ref))) t' = some (.tup [.str (wS p.1), .str (wS p.2)]) := by
        intro k p hk
        by_cases hlt : k < rs.length
        · rw [List.getElem?_append_left hlt] at hk
          obtain ⟨t', x, y⟩ := h3 k p hk
          have y' := s3 _ _ (sH _ _ y)
          exact ⟨t', by rw [List.getElem?_append_left (by omega)]; exact x, keep _ _ (ne_of y' g1'' fun z => nomatch z) y'⟩
        · rw [List.getElem?_append_right (by omega)] at hk
          have e : k - rs.length = 0 := by
            rcases Nat.eq_zero_or_pos (k - rs.length) with h | h
            · exact h
            · rw [List.getElem?_eq_none (by show 1 ≤ _; omega)] at hk; cases hk
          rw [e] at hk
          cases hk
          refine ⟨t, ?_, keep _ _ tf gt⟩
          rw [List.getElem?_append_right (by omega), hl, e]
          rfl
      have g5 := keep _ _ nsd g2''
      generalize upd G3 lf (.lst ((ts ++ [t]).map V.ref)) = G4 at D4 s4 g4 h4 g5
      refine ⟨_, rfl, _, rfl, _, rfl, by show 2 ≤ 2 ^ 24; decide, fun e nE => ?_⟩
      have tE := same_new nE (.lst [V.str (wS a), V.str (wS b)])
      refine ⟨sd, e, ss.map V.str, [V.str (wS a), V.str (wS b)], rfl, rfl, tE _ _ (hd_sub _ _ g5), upd_same, by rw [List.length_map]; show _ + 2 ≤ 2 ^ 24; omega, fun s2' ns2 => ?_⟩
      have e2 : ss.map V.str ++ [V.str (wS a), V.str (wS b)] = (ss ++ [wS a, wS b]).map V.str := by rw [List.map_append]; rfl
      rw [e2]
      have sN : Same G4 (upd (upd G4 e (.lst [V.str (wS a), V.str (wS b)])) s2' (.lst ((ss ++ [wS a, wS b]).map V.str))) := tE.trans (same_new ns2 _)
      have sN' := hd_same (d := d) (c := c) sN
      have fs2 := (D4.same tE).free ns2
      refine ⟨_, _, _, _, s2', ts ++ [t], rs ++ [(a, b)], ss ++ [wS a, wS b], rfl, (D4.same sN).mono (by omega), s4.trans sN', sN' _ _ g4, by rw [List.length_append, List.length_append, hl]; rfl, (fun i p hp => let ⟨t', x, y⟩ := h4 i p hp; ⟨t', x, sN' _ _ y⟩), hd_of upd_same fs2.1 fs2.2, by rw [List.length_append]; show _ + 2 ≤ _; omega, ⟨by rw [List.length_append, ← hl]; show _ + 1 ≤ 6; omega, fun p hp => ?_⟩, fun z => ?_⟩
      · rcases List.mem_append.mp hp with hp | hp
        · exact R.ok p hp
        · rw [List.mem_singleton.mp hp]
          exact ⟨by show 1 ≤ a.length; omega, by show a.length ≤ 3; omega, by show b.length = a.length; omega, ab, a2, b2⟩
      · rw [z] at ns2
        have := tE _ _ (hd_sub _ _ g4)
        rw [this] at ns2
        cases ns2
  · rintro σ G ⟨k4, k5, k6, k7, sd, ts, rs, ss, rfl, DG, sG, g1, hl, h3, g2, sl, R, nsd⟩
    refine ⟨_, rfl, lf, _, rfl, .inl ⟨.inl (.inl (hd_sub _ _ g1)), fun p np => ?_⟩⟩
    have fp := DG.free np
    have sp := hd_new (d := d) (c := c) np (.tup (ts.map V.ref))
    exact q p rs _ R ⟨ts, hd_of upd_same fp.1 fp.2, hl, fun i x hx => let ⟨t, y, z⟩ := h3 i x hx; ⟨t, y, sp _ _ z⟩⟩ ((DG.new np _).mono (by omega)) (sG.trans sp)
end
end K28

namespace K28
open PySem L2 GL KC GZ KW KR GM
/-! ### what has been found so far -/
def First (w a : List Nat) (k : Nat) : Prop := At w a k ∧ ∀ j, j < k → ¬ At w a j
theorem First.one {w a : List Nat} {k k' : Nat} (h : First w a k) (h' : First w a k') : k = k' := by
  rcases Nat.lt_trichotomy k k' with e | e | e
  · exact absurd h.1 (h'.2 k e)
  · exact e
  · exact absurd h'.1 (h.2 k' e)
theorem first_of {w a : List Nat} : ∀ (n k : Nat), k ≤ n → At w a k → ∃ k', k' ≤ k ∧ First w a k'
  | 0, k, hk, h => ⟨k, Nat.le_refl _, h, fun j hj => absurd hj (by omega)⟩
  | n + 1, k, hk, h => by
    by_cases e : ∃ j, j < k ∧ At w a j
    · obtain ⟨j, hj, hj2⟩ := e
      obtain ⟨k', h1, h2⟩ := first_of n j (by omega) hj2
      exact ⟨k', by omega, h2⟩
    · exact ⟨k, Nat.le_refl _, h, fun j hj hj2 => e ⟨j, hj, hj2⟩⟩
abbrev Tri := Nat × List Nat × List Nat
structure Good (w : List Nat) (D : List Tri) (rows : List Row) : Prop where
  sound : ∀ r ∈ rows, ∃ x ∈ D, ∃ k : Nat, First w x.2.1 k ∧ r = ((k : Int), (x.1 : Int), wS x.2.2)
  full : ∀ x ∈ D, ∀ k : Nat, First w x.2.1 k → ((k : Int), (x.1 : Int), wS x.2.2) ∈ rows
  len : rows.length ≤ D.length
theorem Good.nil (w : List Nat) : Good w [] [] := ⟨(fun r h => nomatch h), (fun x h => nomatch h), Nat.le_refl _⟩
theorem Good.add {w : List Nat} {D : List Tri} {rows : List Row} (G : Good w D rows) {x : Tri} {k : Nat} (h : First w x.2.1 k) : Good w (D ++ [x]) (rows ++ [((k : Int), (x.1 : Int), wS x.2.2)]) := by
  refine ⟨fun r hr => ?_, fun y hy k' hk => ?_, by rw [List.length_append, List.length_append]; have := G.len; show _ + 1 ≤ _ + 1; omega⟩
  · rcases List.mem_append.mp hr with hr | hr
    · obtain ⟨y, y1, y2⟩ := G.sound r hr
      exact ⟨y, List.mem_append_left _ y1, y2⟩
    · exact ⟨x, List.mem_append_right _ (List.mem_singleton.mpr rfl), k, h, List.mem_singleton.mp hr⟩
  · rcases List.mem_append.mp hy with hy | hy
    · exact List.mem_append_left _ (G.full y hy k' hk)
    · rw [List.mem_singleton.mp hy] at hk ⊢
      rw [hk.one h]
      exact List.mem_append_right _ (List.mem_singleton.mpr rfl)
theorem Good.skip {w : List Nat} {D : List Tri} {rows : List Row} (G : Good w D rows) {x : Tri} (h : ∀ k, ¬ At w x.2.1 k) : Good w (D ++ [x]) rows := by
  refine ⟨fun r hr => ?_, fun y hy k' hk => ?_, by rw [List.length_append]; have := G.len; omega⟩
  · obtain ⟨y, y1, y2⟩ := G.sound r hr
    exact ⟨y, List.mem_append_left _ y1, y2⟩
  · rcases List.mem_append.mp hy with hy | hy
    · exact G.full y hy k' hk
    · rw [List.mem_singleton.mp hy] at hk
      exact absurd hk.1 (h k')
def two (i : Nat) (p : Pr) : List Tri := [(i, p.1, p.2), (i, p.2, p.1)]
def done (rs : List Pr) : Nat → List Tri
  | 0 => []
  | n + 1 => done rs n ++ (match rs[n]? with | some p => two n p | none => [])
theorem mem_two {i : Nat} {p : Pr} {x : Tri} (h : x ∈ two i p) : x.1 = i ∧ ((x.2.1 = p.1 ∧ x.2.2 = p.2) ∨ (x.2.1 = p.2 ∧ x.2.2 = p.1)) := by
  simp only [two, List.mem_cons, List.not_mem_nil, or_false] at h
  rcases h with rfl | rfl
  · exact ⟨rfl, .inl ⟨rfl, rfl⟩⟩
  · exact ⟨rfl, .inr ⟨rfl, rfl⟩⟩
theorem mem_done {rs : List Pr} : ∀ {n : Nat} {x : Tri}, x ∈ done rs n → ∃ p, rs[x.1]? = some p ∧ ((x.2.1 = p.1 ∧ x.2.2 = p.2) ∨ (x.2.1 = p.2 ∧ x.2.2 = p.1))
  | 0, x, h => nomatch h
  | n + 1, x, h => by
    rcases List.mem_append.mp h with h | h
    · exact mem_done h
    · cases e : rs[n]? with
      | none => rw [e] at h; cases h
      | some p =>
        rw [e] at h
        obtain ⟨h1, h2⟩ := mem_two h
        exact ⟨p, by rw [h1]; exact e, h2⟩
theorem done_of {rs : List Pr} {i : Nat} {p : Pr} (h : rs[i]? = some p) : ∀ {n : Nat}, i < n → (i, p.1, p.2) ∈ done rs n ∧ (i, p.2, p.1) ∈ done rs n
  | 0, hn => absurd hn (Nat.not_lt_zero _)
  | n + 1, hn => by
    by_cases e : i = n
    · subst e
      have e2 : done rs (i + 1) = done rs i ++ two i p := by
        show done rs i ++ (match rs[i]? with | some p => two i p | none => []) = _
        rw [h]
      rw [e2]
      exact ⟨List.mem_append_right _ (by simp [two]), List.mem_append_right _ (by simp [two])⟩
    · obtain ⟨a, b⟩ := done_of h (n := n) (by omega)
      exact ⟨List.mem_append_left _ a, List.mem_append_left _ b⟩
theorem done_len (rs : List Pr) : ∀ n, (done rs n).length ≤ 2 * n
  | 0 => Nat.le_refl _
  | n + 1 => by
    have := done_len rs n
    show (done rs n ++ _).length ≤ _
    rw [List.length_append]
    cases rs[n]? with
    | none => show _ + 0 ≤ _; omega
    | some p => show _ + 2 ≤ _; omega
theorem hit_of {w : List Nat} {x : Tri} {p : Pr} {k : Nat} (h : (x.2.1 = p.1 ∧ x.2.2 = p.2) ∨ (x.2.1 = p.2 ∧ x.2.2 = p.1)) (a : At w x.2.1 k) : Hit w p k x.2.2 := by
  rcases h with ⟨h1, h2⟩ | ⟨h1, h2⟩
  · rw [h1] at a
    exact .inl ⟨a, h2⟩
  · rw [h1] at a
    exact .inr ⟨a, h2⟩
/-- a hit has a row at its place or ahead of it -/
theorem row_of {w : List Nat} {rs : List Pr} {rows : List Row} (G : Good w (done rs rs.length) rows) {k i : Nat} {p : Pr} {b : List Nat} (hp : rs[i]? = some p) (h : Hit w p k b) : ∃ (k' : Nat) (z : Str), k' ≤ k ∧ ((k' : Int), (i : Int), z) ∈ rows := by
  have il : i < rs.length := (List.getElem?_eq_some_iff.mp hp).1
  obtain ⟨d1, d2⟩ := done_of hp il
  rcases h with ⟨a, _⟩ | ⟨a, _⟩
  · obtain ⟨k', h1, h2⟩ := first_of k k (Nat.le_refl _) a
    exact ⟨k', _, h1, G.full _ d1 k' h2⟩
  · obtain ⟨k', h1, h2⟩ := first_of k k (Nat.le_refl _) a
    exact ⟨k', _, h1, G.full _ d2 k' h2⟩
theorem good_none {w : List Nat} {rs : List Pr} (G : Good w (done rs rs.length) []) : NoChg rs w := fun k i p b hp h => by
  obtain ⟨k', z, _, m⟩ := row_of G hp h
  cases m
theorem good_min {w : List Nat} {rs : List Pr} {rows : List Row} (G : Good w (done rs rs.length) rows) {r : Row} (hr : r ∈ rows) (lo : ∀ y ∈ rows, r.1 < y.1 ∨ (r.1 = y.1 ∧ r.2.1 ≤ y.2.1)) : ∃ (k i : Nat) (b : List Nat), r = ((k : Int), (i : Int), wS b) ∧ IsChg rs w (k, i, b) := by
  obtain ⟨x, x1, k, x2, rfl⟩ := G.sound r hr
  obtain ⟨p, p1, p2⟩ := mem_done x1
  refine ⟨k, x.1, x.2.2, rfl, ⟨p, p1, hit_of p2 x2.1⟩, fun k' i' p' b' hp' h' => ?_⟩
  obtain ⟨k'', z, h1, h2⟩ := row_of G hp' h'
  have := lo _ h2
  simp only at this ⊢
  omega
theorem good_same {l : Nat} {w : List Nat} {rs : List Pr} (R : Rul l rs) {n : Nat} {rows : List Row} (G : Good w (done rs n) rows) : ∀ x ∈ rows, ∀ y ∈ rows, x.1 = y.1 → x.2.1 = y.2.1 → x.2.2 = y.2.2 := by
  intro x hx y hy e1 e2
  obtain ⟨u, u1, k, u2, rfl⟩ := G.sound x hx
  obtain ⟨v, v1, k', v2, rfl⟩ := G.sound y hy
  obtain ⟨p, p1, p2⟩ := mem_done u1
  obtain ⟨p', q1, q2⟩ := mem_done v1
  simp only at e1 e2 ⊢
  have ek : k = k' := by omega
  have ei : u.1 = v.1 := by omega
  rw [← ei, p1] at q1
  cases q1
  subst ek
  rw [hit_one R p1 (hit_of p2 u2.1) (hit_of q2 v2.1)]
theorem come_len {l : Nat} {rs : List Pr} (R : Rul l rs) {w : List Nat} {x : Nat × Nat × List Nat} (h : IsChg rs w x) : x.1 + x.2.2.length ≤ w.length ∧ 1 ≤ x.2.2.length ∧ x.2.2.length ≤ 3 ∧ x.2.1 < 6 ∧ ∀ j ∈ x.2.2, j < l := by
  obtain ⟨p, p1, p2⟩ := h.hit
  obtain ⟨h1, h2, h3, _, h5, h6⟩ := R.ok p (List.mem_of_getElem? p1)
  have hi : x.2.1 < rs.length := (List.getElem?_eq_some_iff.mp p1).1
  have := R.len
  rcases p2 with ⟨a, b⟩ | ⟨a, b⟩
  · have := a.le h1
    rw [b]
    exact ⟨by omega, by omega, by omega, by omega, h6⟩
  · have := a.le (by omega)
    rw [b]
    exact ⟨by omega, by omega, by omega, by omega, h5⟩
section
variable {P : Program} {w : World} {K : PySem.W.Frag} {mg : Str → Option Value} {base : Heap}
theorem walkE {K : PySem.W.Frag} {k1 : Kd} {v1 : V} {xs : List V} : Walk (ItE K k1 v1 xs) xs.length (fun H => Src K H k1 v1 xs) (fun i H v H' => ∃ T r, v = .ref T ∧ H T = none ∧ H' = upd H T (.tup r) ∧ rowE xs i = some r) := walk_N
theorem scC : FnScope ["rule", "word", "found", "index", "one", "other", "piece", "partner", "place"] ["rule", "word"] (defScope sChange) := ⟨rfl, rfl, rfl, by decide +kernel, rfl, by decide +kernel, by decide +kernel⟩
theorem ok_change {f : Addr} {fd : FuncData} (F : Fun K "change" "change" sChange f fd) (T : Txt mg) : FnOk P w K mg base CX0 1 f fd ["rule", "word"] spChg := by
  refine F.ok scC (fun vs H Q E h => ?_) (fun cdv A outer s H vs Q E hr h => ?_)
  · obtain ⟨a, l, rs, w, rfl, _⟩ := h
    rfl
  obtain ⟨a, l, rs, wd, rfl, RA, R, hl, q⟩ := h
  refine ⟨_, pss_cons (ps_set (i := 2) scC.nd rfl (Or.inl rfl) (pe_lst pa_nil))
    (pss_cons (ps_for PassesOwn.never rfl (pi_e rfl T.enum (pa_cons (pv 0) pa_nil)) (pg_tup (by rfl) (pgs_cons (pg_name (i := 3) scC.nd rfl (Or.inl rfl)) (pgs_cons (pg_tup (by rfl) (pgs_cons (pg_name (i := 4) scC.nd rfl (Or.inl rfl)) (pgs_cons (pg_name (i := 5) scC.nd rfl (Or.inl rfl)) pgs_nil))) pgs_nil)))
      (pss_one (ps_for PassesOwn.never rfl (pi_tup (pe_tup (pa_cons (pe_tup (pa_cons (pv 4) (pa_cons (pv 5) pa_nil))) (pa_cons (pe_tup (pa_cons (pv 5) (pa_cons (pv 4) pa_nil))) pa_nil)))) (pg_tup (by rfl) (pgs_cons (pg_name (i := 6) scC.nd rfl (Or.inl rfl)) (pgs_cons (pg_name (i := 7) scC.nd rfl (Or.inl rfl)) pgs_nil)))
        (pss_cons (ps_set (i := 8) scC.nd rfl (Or.inl rfl) (pe_bm PySem.F.plainAttrs_str PySem.F.slot_str_find PySem.F.type_str_find mt_find (pv 1) (pa_cons (pv 6) pa_nil)))
        (pss_one (ps_if (pt_cmpR op_ge (pv 8) pe_int (nomark _)) (pss_one (ps_expr (pe_bm PySem.F.plainAttrs_list PySem.F.slot_list_append PySem.F.type_list_append mt_append (pv 2) (pa_cons (pe_tup (pa_cons (pv 8) (pa_cons (pv 3) (pa_cons (pv 7) pa_nil)))) pa_nil)))) pss_nil))))))
    (pss_cons (ps_if (pt_not (pt_truth (pv 2) (by intro _; rfl))) (pss_one (ps_ret pe_non)) pss_nil)
    (pss_cons (ps_asg (pe_callB (cr_min3 (by rfl) (hu_of hr)) (by rfl) T.min (by decide +kernel) (pa_cons (pv 2) pa_nil)) (pg_tup (by rfl) (pgs_cons (pg_name (i := 8) scC.nd rfl (Or.inl rfl)) (pgs_cons (pg_name (i := 3) scC.nd rfl (Or.inl rfl)) (pgs_cons (pg_name (i := 7) scC.nd rfl (Or.inl rfl)) pgs_nil)))))
    (pss_one (ps_ret (pe_tup (pa_cons (pv 8) (pa_cons (pv 3) (pa_cons (pe_op op_add_str (pe_op op_add_str (pe_slice sl_str (pv 1) po_none (po_some (pv 8))) (pv 7)) (pe_slice sl_str (pv 1) (po_some (pe_op op_add (pv 8) (pe_callB call_len_str (by rfl) T.c.len PySem.boot_len (pa_cons (pv 7) pa_nil)))) po_none)) pa_nil))))))))), ?_⟩
  obtain ⟨tp, h1, h2, h3⟩ := RA.ex
  refine ⟨by show 0 ≤ 2 ^ 24; decide, fun lf nlf => ?_⟩
  have s0 := same_new nlf (.lst [])
  have g0 : upd H lf (.lst []) lf = some (.lst []) := upd_same
  have nH := nlf
  generalize upd H lf (.lst []) = H1 at s0 g0
  have tl : (tp.map V.ref).length = rs.length := by rw [List.length_map, h2]
  refine ⟨_, rfl, .ref a, .tup, tp.map V.ref, rfl, ⟨a, rfl, .inl (.inl (s0 _ _ h1))⟩, for_it walkE (fun i σ G => ∃ (k3 k4 k5 k6 k7 k8 : Option V) (xs : List (Addr × Row)), σ = [some (.ref a), some (.str (wS wd)), some (.ref lf), k3, k4, k5, k6, k7, k8] ∧ Same H G ∧ G lf = some (.lst (xs.map fun x => V.ref x.1)) ∧
      (∀ x ∈ xs, G x.1 = some (.tup [.int x.2.1, .int x.2.2.1, .str x.2.2.2])) ∧ Good wd (done rs i) (xs.map (·.2))) ⟨none, none, none, none, none, none, [], rfl, s0, g0, (fun x h => nomatch h), Good.nil _⟩ (fun i σ G _ h => let ⟨_, _, _, _, _, _, _, _, s, _⟩ := h; ⟨a, rfl, .inl (.inl (s _ _ h1))⟩) ?_ ?_⟩
  · rintro i x σ G G' hi ⟨k3, k4, k5, k6, k7, k8, xs, rfl, sG, gl, gx, gd⟩ ⟨Tt, r, rfl, nT, rfl, hr'⟩
    obtain ⟨x, e1, rfl⟩ := rowE_of hr'
    rw [tl] at hi
    have i6 : i < 6 := Nat.lt_of_lt_of_le hi R.len
    obtain ⟨p, hp⟩ : ∃ p, rs[i]? = some p := ⟨_, List.getElem?_eq_getElem hi⟩
    obtain ⟨t, t1, t2⟩ := h3 i p hp
    rw [List.getElem?_map, t1] at e1
    cases e1
    obtain ⟨o1, o2, o3, _⟩ := R.ok p (List.mem_of_getElem? hp)
    have sT := same_new nT (.tup [V.int (i : Nat), V.ref t])
    have gT : upd G Tt (.tup [V.int (i : Nat), V.ref t]) Tt = some (.tup [V.int (i : Nat), V.ref t]) := upd_same
    generalize upd G Tt (.tup [V.int (i : Nat), V.ref t]) = G1 at sT gT
    have sG1 := sG.trans sT
    refine ⟨Tt, _, rfl, .inl (.inl gT), rfl, _, _, rfl, _, _, rfl, ⟨t, _, rfl, .inl (.inl (sG1 _ _ t2)), rfl, _, _, rfl, _, _, rfl, rfl, rfl, ?_⟩⟩
    -- the two ways round
    refine ⟨_, rfl, _, rfl, by show 2 ≤ 2 ^ 24; decide, fun q1 n1 => ⟨_, rfl, _, rfl, by show 2 ≤ 2 ^ 24; decide, fun q2 n2 => ⟨by show 2 ≤ 2 ^ 24; decide, fun q3 n3 => ?_⟩⟩⟩
    have u1 := same_new n1 (.tup [V.str (wS p.1), V.str (wS p.2)])
    have u2 := same_new n2 (.tup [V.str (wS p.2), V.str (wS p.1)])
    have u3 := same_new n3 (.tup [V.ref q1, V.ref q2])
    have v1 := u3 _ _ (u2 _ _ (upd_same (H := G1) (a := q1) (o := .tup [V.str (wS p.1), V.str (wS p.2)])))
    have v2 := u3 _ _ (upd_same (H := upd G1 q1 (.tup [V.str (wS p.1), V.str (wS p.2)])) (a := q2) (o := .tup [V.str (wS p.2), V.str (wS p.1)]))
    have v3 : upd (upd (upd G1 q1 (.tup [V.str (wS p.1), V.str (wS p.2)])) q2 (.tup [V.str (wS p.2), V.str (wS p.1)])) q3 (.tup [V.ref q1, V.ref q2]) q3 = some (.tup [V.ref q1, V.ref q2]) := upd_same
    have sG2 := sG1.trans (u1.trans (u2.trans u3))
    have sX := sT.trans (u1.trans (u2.trans u3))
    generalize upd (upd (upd G1 q1 (.tup [V.str (wS p.1), V.str (wS p.2)])) q2 (.tup [V.str (wS p.2), V.str (wS p.1)])) q3 (.tup [V.ref q1, V.ref q2]) = G2 at v1 v2 v3 sG2 sX
    have gl2 := sX _ _ gl
    have en : ∀ {j : Nat} {y : V}, [V.ref q1, V.ref q2][j]? = some y → ∃ z : Tri, (two i p)[j]? = some z ∧ z.1 = i ∧ (1 ≤ z.2.1.length ∧ ∃ qq, y = .ref qq ∧ G2 qq = some (.tup [.str (wS z.2.1), .str (wS z.2.2)])) := by
      intro j y hy
      rcases j with _ | _ | j
      · cases hy; exact ⟨_, rfl, rfl, o1, q1, rfl, v1⟩
      · cases hy; exact ⟨_, rfl, rfl, by show 1 ≤ p.2.length; omega, q2, rfl, v2⟩
      · cases hy
    refine ⟨q3, rfl, ⟨_, .inl (.inl v3)⟩, for_tup (K := K) (a := q3) (xs := [V.ref q1, V.ref q2]) (fun j σ G' => ∃ (k6 k7 k8 : Option V) (xs : List (Addr × Row)), σ = [some (.ref a), some (.str (wS wd)), some (.ref lf), some (.int (i : Nat)), some (.str (wS p.1)), some (.str (wS p.2)), k6, k7, k8] ∧ Same H G' ∧ G' q3 = some (.tup [V.ref q1, V.ref q2]) ∧
        (∀ qq x y, G2 qq = some (.tup [.str x, .str y]) → G' qq = some (.tup [.str x, .str y])) ∧ G' lf = some (.lst (xs.map fun x => V.ref x.1)) ∧ (∀ x ∈ xs, G' x.1 = some (.tup [.int x.2.1, .int x.2.2.1, .str x.2.2.2])) ∧ Good wd (done rs i ++ (two i p).take j) (xs.map (·.2)))
      ⟨_, _, _, xs, rfl, sG2, v3, (fun _ _ _ h => h), gl2, (fun x hx => sX _ _ (gx x hx)), by rw [List.take_zero, List.append_nil]; exact gd⟩ (fun j σ G' _ h => let ⟨_, _, _, _, _, _, s, _⟩ := h; .inl (.inl s)) ?_ ?_⟩
    · rintro j y σ G' hy ⟨k6, k7, k8, xs, rfl, sG', g3, gq, gl', gx', gd'⟩
      obtain ⟨z, z1, z2, z3, qq, rfl, z4⟩ := en hy
      have z5 := gq _ _ _ z4
      have tk : (two i p).take (j + 1) = (two i p).take j ++ [z] := by rw [List.take_add_one, z1]; rfl
      refine ⟨qq, _, rfl, .inl (.inl z5), rfl, _, _, rfl, _, _, rfl, rfl, ?_⟩
      refine ⟨_, rfl, rfl, _, rfl, _, _, rfl, rfl, ?_⟩
      have dl : (xs.map (·.2)).length ≤ 2 * i + 2 := by
        have a1 := gd'.len
        have a2 := done_len rs i
        rw [List.length_append, List.length_take] at a1
        have a3 : (two i p).length = 2 := rfl
        omega
      rw [List.length_map] at dl
      rcases find_wS wd z.2.1 z3 with ⟨f1, f2⟩ | ⟨k, f1, f2, f3⟩
      · rw [f1]
        refine ⟨_, rfl, _, _, rfl, rfl, _, rfl, ?_⟩
        refine ite2 (fun c1 => absurd (of_decide_eq_true c1) (by decide)) (fun c1 => ?_)
        exact ⟨_, _, _, xs, rfl, sG', g3, gq, gl', gx', by rw [tk, ← List.append_assoc]; exact gd'.skip f2⟩
      · rw [f1]
        refine ⟨_, rfl, _, _, rfl, rfl, _, rfl, ?_⟩
        refine ite2 (fun c1 => ?_) (fun c1 => absurd (decide_eq_true (show (0 : Int) ≤ (k : Int) by omega)) c1)
        refine ⟨_, rfl, .inl ⟨rfl, _, .inl (.inl gl')⟩, _, rfl, _, rfl, _, rfl, by show 3 ≤ 2 ^ 24; decide, fun t' nt' => ?_⟩
        have s5 := same_new nt' (.tup [V.int (k : Int), V.int ((i : Nat) : Int), V.str (wS z.2.2)])
        have g5 : upd G' t' (.tup [V.int (k : Int), V.int ((i : Nat) : Int), V.str (wS z.2.2)]) t' = some (.tup [V.int (k : Int), V.int ((i : Nat) : Int), V.str (wS z.2.2)]) := upd_same
        have tl' : t' ≠ lf := fun e => by rw [e, gl'] at nt'; cases nt'
        generalize upd G' t' (.tup [V.int (k : Int), V.int ((i : Nat) : Int), V.str (wS z.2.2)]) = G3 at s5 g5
        have keep : ∀ {x : Addr} {vs : List V} (o : HO), G3 x = some (.tup vs) → upd G3 lf o x = some (.tup vs) := fun {x vs} o hx => by
          rw [upd_ne (ne_of hx (s5 _ _ gl') fun z => nomatch z)]
          exact hx
        refine ⟨lf, _, _, rfl, rfl, s5 _ _ gl', by rw [List.length_map]; show _ < 2 ^ 24; omega, ?_⟩
        refine ⟨_, _, _, xs ++ [(t', ((k : Int), ((i : Nat) : Int), wS z.2.2))], rfl, ?_, keep _ (s5 _ _ g3), (fun qq x y h => keep _ (s5 _ _ (gq _ _ _ h))), ?_, ?_, ?_⟩
        · exact same_grow nH (sG'.trans s5) _
        · rw [upd_same, List.map_append]; rfl
        · intro x hx
          rcases List.mem_append.mp hx with hx | hx
          · exact keep _ (s5 _ _ (gx' x hx))
          · rw [List.mem_singleton.mp hx]; exact keep _ g5
        · rw [tk, ← List.append_assoc, List.map_append]
          have ga := gd'.add (x := z) ⟨f2, f3⟩
          rw [z2] at ga
          exact ga
    · rintro σ G' ⟨k6, k7, k8, xs, rfl, sG', g3, gq, gl', gx', gd'⟩
      refine ⟨_, _, _, _, _, _, xs, rfl, sG', gl', gx', ?_⟩
      have e2 : done rs (i + 1) = done rs i ++ two i p := by
        show done rs i ++ (match rs[i]? with | some p => two i p | none => []) = _
        rw [hp]
      rw [e2]
      exact gd'
  · rintro σ G ⟨k3, k4, k5, k6, k7, k8, xs, rfl, sG, gl, gx, gd⟩
    rw [tl] at gd
    refine ⟨_, rfl, !(xs.map fun x => V.ref x.1).isEmpty, .inl ⟨_, .inl (.inl gl), rfl⟩, ?_⟩
    cases xs with
    | nil =>
      refine iteT ?_
      exact q .non G sG (by rw [chg_none (good_none gd)]; rfl)
    | cons x0 xs0 =>
      refine iteF ?_
      refine ⟨_, rfl, lf, x0 :: xs0, rfl, gl, (fun h => nomatch h), gx, fun x hx y hy => good_same R gd x.2 (List.mem_map_of_mem hx) y.2 (List.mem_map_of_mem hy), fun x hx lo => ?_⟩
      obtain ⟨k, i, b, e, hc⟩ := good_min gd (List.mem_map_of_mem (f := (·.2)) hx) fun y hy => by
        obtain ⟨y', hy', rfl⟩ := List.mem_map.mp hy
        exact lo y' hy'
      have g4 := gx x hx
      rw [e] at g4
      obtain ⟨c1, c2, c3, c4, c5⟩ := come_len R hc
      simp only at c1 c2 c3 c4
      refine ⟨x.1, _, rfl, .inl (.inl g4), rfl, _, _, rfl, _, _, rfl, _, _, rfl, rfl, ?_⟩
      have zl : (wS wd).length ≤ 2 ^ 24 := by rw [wS_len]; omega
      have e1 : cutS (wS wd) none (some (k : Int)) = wS (wd.take k) := cut_take wd k
      refine ⟨_, rfl, _, rfl, _, rfl, _, rfl, _, rfl, _, rfl, zl, ?_⟩
      show ∃ _, _
      rw [e1]
      refine ⟨_, rfl, _, _, rfl, rfl, by rw [wS_len, wS_len, List.length_take]; show _ ≤ 2 ^ 24; omega, ?_⟩
      rw [wS_app]
      refine ⟨_, rfl, _, rfl, _, rfl, _, rfl, by rw [wS_len]; show _ ≤ 2 ^ 24; omega, _, _, rfl, rfl, _, rfl, _, rfl, zl, ?_⟩
      rw [wS_len, show (k : Int) + ((b.length : Nat) : Int) = ((k + b.length : Nat) : Int) by omega, cut_drop]
      refine ⟨_, _, rfl, rfl, by rw [wS_len, wS_len, List.length_append, List.length_take, List.length_drop]; show _ ≤ 2 ^ 24; omega, ?_⟩
      rw [wS_app]
      refine ⟨by show 3 ≤ 2 ^ 24; decide, fun p np => ?_⟩
      exact q (.ref p) _ (sG.trans (same_new np _)) (by rw [chg_some R hc]; exact ⟨p, rfl, upd_same⟩)
end
end K28

namespace K28
open PySem L2 GL KC GZ KW KR GM
/-- nothing changes ahead of place k, nor at k by a pair ahead of i -/
def Low (rs : List Pr) (w : List Nat) (k i : Nat) : Prop := ∀ (k' i' : Nat) (p : Pr) (b : List Nat), rs[i']? = some p → Hit w p k' b → k < k' ∨ (k = k' ∧ i ≤ i')
theorem wS_inj {u v : List Nat} (h : wS u = wS v) : u = v := by
  unfold wS at h
  injection h with h
  have := congrArg Array.toList h
  exact add_inj _ _ this
theorem at_dec (w a : List Nat) (k : Nat) : (V.str (wS ((w.drop k).take a.length)) = V.str (wS a)) ↔ At w a k := by
  constructor
  · intro h
    injection h with h
    exact wS_inj h
  · intro h
    rw [show (w.drop k).take a.length = a from h]
def rMulS0 : R2 := fun x y H Q => ∃ (c : Nat) (n : Nat), x = .str ⟨#[c]⟩ ∧ y = .int (n : Int) ∧ n ≤ 100000 ∧ Q (.str ⟨(List.replicate n c).toArray⟩) H
theorem op_mulS0 {X : Cx} : OpR X (binaryOp .Mult) rMulS0 := by
  intro pins s σ H x y v u Q I rx ry h
  obtain ⟨c, n, rfl, rfl, h2, q⟩ := h
  cases n with
  | succ n => exact op_mulS pins s σ H _ _ v u Q I rx ry ⟨c, n + 1, rfl, rfl, by omega, h2, q⟩
  | zero =>
    obtain ⟨t, rfl⟩ := rx
    obtain ⟨t', rfl⟩ := ry
    exact PySem.P.mul_str_none (by decide) (by decide) ⟨.str ⟨#[]⟩, H, I.tok _, ⟨_, rfl⟩, q⟩
section
variable {P : Program} {w : World} {K : PySem.W.Frag} {mg : Str → Option Value} {base : Heap}
theorem scCd : FnScope ["_law_rule_here", "_law_word_here", "_law_place", "_law_index", "_law_one_here", "_law_other"] ["_law_rule_here", "_law_word_here"] (defScope sChanged) := ⟨rfl, rfl, rfl, by decide +kernel, rfl, by decide +kernel, by decide +kernel⟩
theorem ok_changed {f : Addr} {fd : FuncData} (F : Fun K "_law_changed" "_law_changed" sChanged f fd) (T : Txt mg) : FnOk P w K mg base CX0 1 f fd ["_law_rule_here", "_law_word_here"] spChg := by
  refine F.ok scCd (fun vs H Q E h => ?_) (fun cdv A outer s H vs Q E hr h => ?_)
  · obtain ⟨a, l, rs, w, rfl, _⟩ := h
    rfl
  obtain ⟨a, l, rs, wd, rfl, RA, R, hl, q⟩ := h
  refine ⟨_, pss_cons (ps_for PassesOwn.never rfl (pi_range1 rfl T.c.range (pa_cons (pe_callB call_len_str (by rfl) T.c.len PySem.boot_len (pa_cons (pv 1) pa_nil)) pa_nil)) (pg_name (i := 2) scCd.nd rfl (Or.inl rfl))
      (pss_one (ps_for PassesOwn.never rfl (pi_range1 rfl T.c.range (pa_cons (pe_callB call_len_seq (by rfl) T.c.len PySem.boot_len (pa_cons (pv 0) pa_nil)) pa_nil)) (pg_name (i := 3) scCd.nd rfl (Or.inl rfl))
        (pss_one (ps_for PassesOwn.never rfl (pi_list (pe_lst (pa_cons (pe_ix ix_tup (pv 0) (pv 3) (fun _ _ => rfl)) (pa_cons (pe_revT (pe_ix ix_tup (pv 0) (pv 3) (fun _ _ => rfl))) pa_nil)))) (pg_tup (by rfl) (pgs_cons (pg_name (i := 4) scCd.nd rfl (Or.inl rfl)) (pgs_cons (pg_name (i := 5) scCd.nd rfl (Or.inl rfl)) pgs_nil)))
          (pss_one (ps_if (pt_cmpR op_eq (pe_slice sl_str (pv 1) (po_some (pv 2)) (po_some (pe_op op_add (pv 2) (pe_callB call_len_str (by rfl) T.c.len PySem.boot_len (pa_cons (pv 4) pa_nil))))) (pv 4) (nomark _))
            (pss_one (ps_ret (pe_tup (pa_cons (pv 2) (pa_cons (pv 3) (pa_cons (pe_op op_add_str (pe_op op_add_str (pe_slice sl_str (pv 1) po_none (po_some (pv 2))) (pv 5)) (pe_slice sl_str (pv 1) (po_some (pe_op op_add (pv 2) (pe_callB call_len_str (by rfl) T.c.len PySem.boot_len (pa_cons (pv 4) pa_nil)))) po_none)) pa_nil)))))) pss_nil)))))))
    (pss_one (ps_ret pe_non)), ?_⟩
  obtain ⟨tp, h1, h2, h3⟩ := RA.ex
  have zl : (wS wd).length ≤ 2 ^ 24 := by rw [wS_len]; omega
  refine ⟨_, rfl, _, rfl, zl, wd.length, by rw [wS_len], by omega, by omega, for_range (lo := 0) (n := wd.length) (fun k σ G => ∃ (k2 k3 k4 k5 : Option V), σ = [some (.ref a), some (.str (wS wd)), k2, k3, k4, k5] ∧ Same H G ∧ Low rs wd k 0)
    ⟨none, none, none, none, rfl, Same.refl H, fun k' i' p b _ _ => by omega⟩ ?_ ?_⟩
  · rintro k σ G hk ⟨k2, k3, k4, k5, rfl, sG, lo⟩
    have ek : (0 : Int) + (k : Int) = ((k : Nat) : Int) := Int.zero_add _
    refine ⟨_, rfl, a, _, rfl, .inr (.inl (.inl (sG _ _ h1))), rs.length, by rw [List.length_map, h2], by have := R.len; omega, by have := R.len; omega, for_range (lo := 0) (n := rs.length) (fun i σ G' => ∃ (k3 k4 k5 : Option V), σ = [some (.ref a), some (.str (wS wd)), some (.int (0 + k)), k3, k4, k5] ∧ Same H G' ∧ Low rs wd k i)
      ⟨_, _, _, rfl, sG, lo⟩ ?_ ?_⟩
    · rintro i σ G' hi ⟨k3, k4, k5, rfl, sG', lo'⟩
      have ei : (0 : Int) + (i : Int) = ((i : Nat) : Int) := Int.zero_add _
      obtain ⟨p, hp⟩ : ∃ p, rs[i]? = some p := ⟨_, List.getElem?_eq_getElem hi⟩
      obtain ⟨t, t1, t2⟩ := h3 i p hp
      obtain ⟨o1, o2, o3, _⟩ := R.ok p (List.mem_of_getElem? hp)
      have ht : (tp.map V.ref)[i]? = some (.ref t) := by rw [List.getElem?_map, t1]; rfl
      refine ⟨_, rfl, _, rfl, a, _, _, .ref t, rfl, rfl, .inl (.inl (sG' _ _ h1)), at_of ei ht, _, rfl, _, rfl, a, _, _, .ref t, rfl, rfl, .inl (.inl (sG' _ _ h1)), at_of ei ht, t, _, rfl, sG' _ _ t2, fun t' nt' => ⟨by show 2 ≤ 2 ^ 24; decide, fun lw nlw => ?_⟩⟩
      have u1 := same_new nt' (.tup [V.str (wS p.1), V.str (wS p.2)].reverse)
      have u2 := same_new nlw (.lst [V.ref t, V.ref t'])
      have v1 := u2 _ _ (u1 _ _ (sG' _ _ t2))
      have v2 := u2 _ _ (upd_same (H := G') (a := t') (o := .tup [V.str (wS p.1), V.str (wS p.2)].reverse))
      have v3 : upd (upd G' t' (.tup [V.str (wS p.1), V.str (wS p.2)].reverse)) lw (.lst [V.ref t, V.ref t']) lw = some (.lst [V.ref t, V.ref t']) := upd_same
      have sG2 := sG'.trans (u1.trans u2)
      generalize upd (upd G' t' (.tup [V.str (wS p.1), V.str (wS p.2)].reverse)) lw (.lst [V.ref t, V.ref t']) = G2 at v1 v2 v3 sG2
      refine ⟨lw, rfl, ⟨_, .inl (.inl v3)⟩, for_list (K := K) (a := lw) (xs := [V.ref t, V.ref t']) (fun j σ G3 => ∃ (k4 k5 : Option V), σ = [some (.ref a), some (.str (wS wd)), some (.int (0 + k)), some (.int (0 + i)), k4, k5] ∧ G3 = G2 ∧ (1 ≤ j → ¬ At wd p.1 k) ∧ (2 ≤ j → ¬ At wd p.2 k))
        ⟨_, _, rfl, rfl, (fun h => absurd h (by decide)), (fun h => absurd h (by decide))⟩ (fun j σ G3 _ h => let ⟨_, _, _, e, _⟩ := h; by rw [e]; exact .inl (.inl v3)) ?_ ?_⟩
      · rintro j y σ G3 hy ⟨k4, k5, rfl, rfl, n1, n2⟩
        have en : ∃ (qq : Addr) (x z : List Nat), y = .ref qq ∧ G3 qq = some (.tup [.str (wS x), .str (wS z)]) ∧ z.length = x.length ∧ x.length ≤ 3 ∧ ((j = 0 ∧ x = p.1 ∧ z = p.2) ∨ (j = 1 ∧ x = p.2 ∧ z = p.1)) := by
          rcases j with _ | _ | j
          · cases hy; exact ⟨t, p.1, p.2, rfl, v1, o3, o2, .inl ⟨rfl, rfl, rfl⟩⟩
          · cases hy; exact ⟨t', p.2, p.1, rfl, v2, o3.symm, by omega, .inr ⟨rfl, rfl, rfl⟩⟩
          · cases hy
        obtain ⟨qq, x, z, rfl, g1, xz, x3, way⟩ := en
        refine ⟨qq, _, rfl, .inl (.inl g1), rfl, _, _, rfl, _, _, rfl, rfl, ?_⟩
        have e1 : cutS (wS wd) (some (0 + (k : Int))) (some (0 + (k : Int) + ((wS x).length : Int))) = wS ((wd.drop k).take x.length) := by
          rw [wS_len, ek, show (k : Int) + ((x.length : Nat) : Int) = ((k + x.length : Nat) : Int) by omega, cut_mid]
        refine ⟨_, rfl, _, rfl, _, rfl, _, rfl, _, rfl, _, rfl, by rw [wS_len]; show _ ≤ 2 ^ 24; omega, _, _, rfl, rfl, _, rfl, _, rfl, zl, ?_⟩
        show ∃ _, _
        rw [e1]
        refine ⟨_, rfl, rfl, _, rfl, ite2 (fun c1 => ?_) (fun c1 => ?_)⟩
        · have ax : At wd x k := (at_dec wd x k).mp (of_decide_eq_true c1)
          have hc : IsChg rs wd (k, i, z) := by
            refine ⟨⟨p, hp, ?_⟩, fun k' i' p' b' a1 a2 => lo' k' i' p' b' a1 a2⟩
            rcases way with ⟨_, rfl, rfl⟩ | ⟨_, rfl, rfl⟩
            · exact .inl ⟨ax, rfl⟩
            · exact .inr ⟨ax, rfl⟩
          have e2 : cutS (wS wd) none (some (0 + (k : Int))) = wS (wd.take k) := by rw [ek, cut_take]
          have e3 : cutS (wS wd) (some (0 + (k : Int) + ((wS x).length : Int))) none = wS (wd.drop (k + x.length)) := by
            rw [wS_len, ek, show (k : Int) + ((x.length : Nat) : Int) = ((k + x.length : Nat) : Int) by omega, cut_drop]
          refine ⟨_, rfl, _, rfl, _, rfl, _, rfl, _, rfl, _, rfl, zl, ?_⟩
          show ∃ _, _
          rw [e2]
          refine ⟨_, rfl, _, _, rfl, rfl, by rw [wS_len, wS_len, List.length_take]; show _ ≤ 2 ^ 24; omega, ?_⟩
          rw [wS_app]
          refine ⟨_, rfl, _, rfl, _, rfl, _, rfl, by rw [wS_len]; show _ ≤ 2 ^ 24; omega, _, _, rfl, rfl, _, rfl, _, rfl, zl, ?_⟩
          show ∃ _ _, _
          rw [e3]
          refine ⟨_, _, rfl, rfl, by rw [wS_len, wS_len, List.length_append, List.length_take, List.length_drop]; show _ ≤ 2 ^ 24; omega, ?_⟩
          rw [wS_app]
          refine ⟨by show 3 ≤ 2 ^ 24; decide, fun r nr => ?_⟩
          refine q (.ref r) _ (sG2.trans (same_new nr _)) ?_
          rw [chg_some R hc]
          refine ⟨r, rfl, ?_⟩
          rw [upd_same, ek, ei]
          show some (HO.tup [_, _, V.str (wS (wd.take k ++ z ++ wd.drop (k + x.length)))]) = some (HO.tup [_, _, V.str (wS (wd.take k ++ z ++ wd.drop (k + z.length)))])
          rw [xz]
        · have ax : ¬ At wd x k := fun h => c1 (decide_eq_true ((at_dec wd x k).mpr h))
          refine ⟨_, _, rfl, rfl, fun _ => ?_, fun hj => ?_⟩
          · rcases way with ⟨_, rfl, rfl⟩ | ⟨e, rfl, rfl⟩
            · exact ax
            · exact n1 (by omega)
          · rcases way with ⟨e, rfl, rfl⟩ | ⟨_, rfl, rfl⟩
            · omega
            · exact ax
      · rintro σ G3 ⟨k4, k5, rfl, rfl, n1, n2⟩
        refine ⟨_, _, _, rfl, sG2, fun k' i' p' b' a1 a2 => ?_⟩
        rcases lo' k' i' p' b' a1 a2 with h | ⟨h, h'⟩
        · exact .inl h
        · refine .inr ⟨h, ?_⟩
          rcases Nat.lt_or_ge i i' with e | e
          · omega
          · have e' : i' = i := by omega
            subst e'
            subst h
            rw [hp] at a1
            cases a1
            rcases a2 with ⟨a3, _⟩ | ⟨a3, _⟩
            · exact absurd a3 (n1 (by show 1 ≤ 2; decide))
            · exact absurd a3 (n2 (by show 2 ≤ 2; decide))
    · rintro σ G' ⟨k3, k4, k5, rfl, sG', lo'⟩
      refine ⟨_, _, _, _, rfl, sG', fun k' i' p' b' a1 a2 => ?_⟩
      rcases lo' k' i' p' b' a1 a2 with h | ⟨h, h'⟩
      · omega
      · have := (List.getElem?_eq_some_iff.mp a1).1
        omega
  · rintro σ G ⟨k2, k3, k4, k5, rfl, sG, lo⟩
    refine q .non G sG ?_
    rw [chg_none fun k i p b a1 a2 => ?_]
    · rfl
    · obtain ⟨o1, o2, o3, _⟩ := R.ok p (List.mem_of_getElem? a1)
      have b1 := lo k i p b a1 a2
      have : k + 1 ≤ wd.length := by
        rcases a2 with ⟨a3, _⟩ | ⟨a3, _⟩
        · have := a3.le o1; omega
        · have := a3.le (by omega); omega
      omega
end
end K28

namespace K28
open PySem L2 GL KC GZ KW KR GM
def spFar : Sp := fun vs H Q _ => ∃ (d c a : Addr) (l m : Nat) (rs : List Pr), vs = [.ref d, .int l, .ref a] ∧ Deck H d c m ∧ m ≤ 800000000 ∧ 1 ≤ l ∧ l ≤ 4 ∧ RuleAt (Hd d c H) a rs ∧ Rul l rs ∧
  ∀ (w : List Nat) (G : Hp), (∀ j ∈ w, j < l) → w.length ≤ 400 → Deck G d c (m + 1010) → Same (Hd d c H) (Hd d c G) → Q (.str (wS w)) G
section
variable {P : Program} {w : World} {K : PySem.W.Frag} {mg : Str → Option Value} {base : Heap}
theorem scFa : FnScope ["_law_deck_here", "_law_letters", "_law_rule_here", "_law_letter", "_law_piece", "_law_pair"] ["_law_deck_here", "_law_letters", "_law_rule_here"] (defScope sFar) := ⟨rfl, rfl, rfl, by decide +kernel, rfl, by decide +kernel, by decide +kernel⟩
abbrev NFa : List Str := ["_law_deck_here", "_law_letters", "_law_rule_here", "_law_letter", "_law_piece", "_law_pair"]
theorem ok_far {f fD fO fW : Addr} {fd fdD fdO fdW : FuncData} (F : Fun K "_law_far" "_law_far" sFar f fd) (T : Txt mg) (W : Dfn P w K mg base "_law_draw" 1 fD fdD ["_law_deck_here", "_law_many"] spDraw)
    (O : Dfn P w K mg base "_law_one" 2 fO fdO ["_law_deck_here", "_law_items"] spOne) (OT : Dfn P w K mg base "_law_one" 2 fO fdO ["_law_deck_here", "_law_items"] spOneT)
    (WD : Dfn P w K mg base "_law_word" 3 fW fdW ["_law_deck_here", "_law_letters", "_law_most"] spWord) : FnOk P w K mg base CX0 4 f fd ["_law_deck_here", "_law_letters", "_law_rule_here"] spFar := by
  refine F.ok scFa (fun vs H Q E h => ?_) (fun cdv A outer s H vs Q E hr h => ?_)
  · obtain ⟨d, c, a, l, m, rs, rfl, _⟩ := h
    rfl
  obtain ⟨d, c, a, l, m, rs, rfl, D, hm, l1, l4, RA, R, q⟩ := h
  have hr1 : Room 1 _ := hr.mono (by decide)
  have hr2 : Room 2 _ := hr.mono (by decide)
  refine ⟨_, pss_cons (ps_set (i := 3) scFa.nd rfl (Or.inl rfl) (pe_call OT.ok hr2 rfl OT.m OT.kp OT.b .nil pass0 (pa_cons (pv 0) (pa_cons (pe_slice sl_str pe_str po_none (po_some (pv 1))) pa_nil))))
    (pss_cons (ps_set (i := 4) scFa.nd rfl (Or.inl rfl) (pe_call O.ok hr2 rfl O.m O.kp O.b .nil pass0 (pa_cons (pv 0) (pa_cons (pe_op op_cat (pe_op op_cat
        (pe_lc (own := [("_law_pair", 5)]) (g := gName 5) (tt := tYes) rfl scFa.nd (pi_tup (pv 2)) (blkOk_by (own := [("_law_pair", 5)]) (N := NFa) (sc := defScope sFar) (by decide +kernel)) (fun _ _ _ _ _ => pg_name (i := 5) scFa.nd rfl (Or.inl rfl)) (fun _ _ _ _ _ => pts_nil)
          (fun _ _ _ _ _ => show PE _ _ (tOp (rIxT K) _ _) from pe_ixT (pv 5) pe_int (fun _ _ => rfl)))
        (pe_lc (own := [("_law_pair", 5)]) (g := gName 5) (tt := tYes) rfl scFa.nd (pi_tup (pv 2)) (blkOk_by (own := [("_law_pair", 5)]) (N := NFa) (sc := defScope sFar) (by decide +kernel)) (fun _ _ _ _ _ => pg_name (i := 5) scFa.nd rfl (Or.inl rfl)) (fun _ _ _ _ _ => pts_nil)
          (fun _ _ _ _ _ => show PE _ _ (tOp (rIxT K) _ _) from pe_ixT (pv 5) pe_int (fun _ _ => rfl)))) (pe_lst (pa_cons (pv 3) pa_nil))) pa_nil))))
    (pss_one (ps_ret (pe_op op_add_str (pe_op op_add_str (pe_op op_mulS0 (pv 3) (pe_call W.ok hr1 rfl W.m W.kp W.b .nil pass0 (pa_cons (pv 0) (pa_cons pe_int pa_nil)))) (pv 4))
      (pe_call WD.ok hr rfl WD.m WD.kp WD.b .nil pass0 (pa_cons (pv 0) (pa_cons (pv 1) (pa_cons pe_int pa_nil)))))))), ?_⟩
  refine ⟨_, rfl, _, rfl, l, rfl, _, rfl, by decide, d, c, wS (List.range l), m, ?_, D, by omega, by rw [wS_len, List.length_range]; omega, by rw [wS_len, List.length_range]; omega, fun k G1 hk D1 s1 => ?_⟩
  · show [V.ref d, V.str (cutS ("abcd" : Str) none (some (l : Int)))] = _
    rw [cut_abcd l l1 l4]
  rw [wS_list] at hk
  obtain ⟨j, hj, rfl⟩ := List.mem_map.mp hk
  have jl : j < l := List.mem_range.mp hj
  obtain ⟨ts, h1, h2, h3⟩ := (RA.same s1).ex
  have six := R.len
  -- the words of the rule on one side
  have side : ∀ (G : Hp) (L : Addr) (nL : G L = none) (ix : Int) (sel : Pr → List Nat) (Qd : Hp → Prop), (∀ p : Pr, atI [V.str (wS p.1), V.str (wS p.2)] ix = some (.str (wS (sel p)))) → Same G1 G → (∀ G', Same G G' → G' L = some (.lst ((rs.map sel).map fun u => V.str (wS u))) → Qd G') →
      ∃ W : Nat → Nat → Hp → Prop, (∃ m, W 0 m (upd G L (.lst []))) ∧ ∀ i m H, W i m H → ((Itt K a).stop i H ∧ Qd H) ∨ ((Itt K a).go i H ∧ ∃ Nx : Hp → Prop, (∀ H', Nx H' → ∃ m', m' < m ∧ W (i + 1) m' H') ∧ ∀ x H', (Itt K a).yld i H x H' → gName 5 x (wipe [some (V.ref d), some (V.int l), some (V.ref a), some (V.str ⟨#[97 + j]⟩), none, none] [5]) H' fun σ2 H2 => wipe σ2 [5] = wipe [some (V.ref d), some (V.int l), some (V.ref a), some (V.str ⟨#[97 + j]⟩), none, none] [5] ∧ tYes σ2 H2 fun b H3 =>
        if b = true then tOp (rIxT K) (tVar 5) (tC (.int ix)) σ2 H3 fun y H4 => ∃ acc, H4 L = some (.lst acc) ∧ acc.length < sizeLine ∧ Nx (upd H4 L (.lst (acc ++ [y]))) else Nx H3) := by
    intro G L nL ix sel Qd hs sG hq
    refine lc_tup (K := K) (a := a) (xs := ts.map V.ref) (fun i G' => Same G G' ∧ G' L = some (.lst (((rs.take i).map sel).map fun u => V.str (wS u)))) ⟨same_new nL _, upd_same⟩ (fun i G' _ h => .inl (.inl (h.1 _ _ (sG _ _ (hd_sub _ _ h1))))) ?_ ?_
    · rintro i x G' hx ⟨s2, g2⟩
      have il : i < rs.length := by
        have := (List.getElem?_eq_some_iff.mp hx).1
        rw [List.length_map] at this
        omega
      obtain ⟨p, hp⟩ : ∃ p, rs[i]? = some p := ⟨_, List.getElem?_eq_getElem il⟩
      obtain ⟨t, t1, t2⟩ := h3 i p hp
      rw [List.getElem?_map, t1] at hx
      cases hx
      refine ⟨rfl, _, rfl, t, _, _, .str (wS (sel p)), rfl, rfl, .inl (.inl (s2 _ _ (sG _ _ (hd_sub _ _ t2)))), hs p, _, g2, ?_, same_grow nL s2 _, ?_⟩
      · rw [List.length_map, List.length_map, List.length_take]
        show _ < 2 ^ 24
        omega
      · rw [upd_same, List.take_add_one, hp, List.map_append, List.map_append]
        rfl
    · rintro G' ⟨s2, g2⟩
      rw [List.length_map, h2, List.take_length] at g2
      exact hq G' s2 g2
  refine ⟨_, rfl, _, rfl, a, rfl, ⟨_, .inl (.inl (hd_sub _ _ h1))⟩, fun L1 n1 => side G1 L1 n1 0 (·.1) _ (fun p => rfl) (Same.refl _) fun G2 s2 g2 => ?_⟩
  refine ⟨_, rfl, a, rfl, ⟨_, .inl (.inl (s2 _ _ (hd_sub _ _ h1)))⟩, fun L2 n2 => side G2 L2 n2 1 (·.2) _ (fun p => rfl) s2 fun G3 s3 g3 => ?_⟩
  refine ⟨L1, L2, _, _, rfl, rfl, s3 _ _ g2, g3, by rw [List.length_map, List.length_map, List.length_map, List.length_map]; show _ ≤ 2 ^ 24; omega, fun L3 n3 => ?_⟩
  have s4 := same_new n3 (.lst (((rs.map (·.1)).map fun u => V.str (wS u)) ++ ((rs.map (·.2)).map fun u => V.str (wS u))))
  refine ⟨_, rfl, by show 1 ≤ 2 ^ 24; decide, fun L4 n4 => ?_⟩
  have s5 := same_new n4 (.lst [V.str ⟨#[97 + j]⟩])
  refine ⟨L3, L4, _, _, rfl, rfl, s5 _ _ upd_same, upd_same, by rw [List.length_append, List.length_map, List.length_map, List.length_map, List.length_map]; show _ + 1 ≤ 2 ^ 24; omega, fun L5 n5 => ?_⟩
  have el : ∀ v ∈ ((rs.map (·.1)).map fun u => V.str (wS u)) ++ ((rs.map (·.2)).map fun u => V.str (wS u)) ++ [V.str ⟨#[97 + j]⟩], ∃ u : List Nat, v = .str (wS u) ∧ u.length ≤ 3 ∧ ∀ x ∈ u, x < l := by
    intro v hv
    rcases List.mem_append.mp hv with hv | hv
    · rcases List.mem_append.mp hv with hv | hv
      · obtain ⟨u, hu, rfl⟩ := List.mem_map.mp hv
        obtain ⟨p, hp, rfl⟩ := List.mem_map.mp hu
        obtain ⟨o1, o2, o3, _, o5, _⟩ := R.ok p hp
        exact ⟨p.1, rfl, o2, o5⟩
      · obtain ⟨u, hu, rfl⟩ := List.mem_map.mp hv
        obtain ⟨p, hp, rfl⟩ := List.mem_map.mp hu
        obtain ⟨o1, o2, o3, _, _, o6⟩ := R.ok p hp
        exact ⟨p.2, rfl, by omega, o6⟩
    · rw [List.mem_singleton.mp hv]
      exact ⟨[j], rfl, by show 1 ≤ 3; decide, fun x hx => by rw [List.mem_singleton.mp hx]; exact jl⟩
  have ell : (((rs.map (·.1)).map fun u => V.str (wS u)) ++ ((rs.map (·.2)).map fun u => V.str (wS u)) ++ [V.str ⟨#[97 + j]⟩]).length ≤ 13 := by
    rw [List.length_append, List.length_append, List.length_map, List.length_map, List.length_map, List.length_map]
    show _ + 1 ≤ 13
    omega
  have elp : 0 < (((rs.map (·.1)).map fun u => V.str (wS u)) ++ ((rs.map (·.2)).map fun u => V.str (wS u)) ++ [V.str ⟨#[97 + j]⟩]).length := by
    rw [List.length_append]
    show 0 < _ + 1
    omega
  generalize ((rs.map (·.1)).map fun u => V.str (wS u)) ++ ((rs.map (·.2)).map fun u => V.str (wS u)) ++ [V.str ⟨#[97 + j]⟩] = items at el ell elp
  have s6 := same_new n5 (.lst items)
  have sA := s2.trans (s3.trans (s4.trans (s5.trans s6)))
  have D5 := D1.same sA
  have f5 := (D1.same (s2.trans (s3.trans (s4.trans s5)))).free n5
  refine ⟨d, c, L5, items, _, rfl, D5, by omega, hd_of upd_same f5.1 f5.2, elp, by omega, fun v G4 hv D6 s7 => ?_⟩
  obtain ⟨u, rfl, u1, u2⟩ := el v hv
  refine ⟨_, rfl, _, rfl, d, c, 300, _, rfl, D6, by omega, by decide, by decide, fun r G5 r0 r1 D7 s8 => ?_⟩
  obtain ⟨n, rfl⟩ : ∃ n : Nat, r = (n : Int) := ⟨r.toNat, by omega⟩
  refine ⟨97 + j, n, rfl, rfl, by omega, ?_⟩
  have e1 : (⟨(List.replicate n (97 + j)).toArray⟩ : Str) = wS (List.replicate n j) := by unfold wS; rw [List.map_replicate]
  rw [e1]
  refine ⟨_, rfl, _, _, rfl, rfl, by rw [wS_len, wS_len, List.length_replicate]; show _ ≤ 2 ^ 24; omega, ?_⟩
  rw [wS_app]
  refine ⟨_, rfl, _, rfl, d, c, l, 90, _, rfl, D7, by omega, l1, l4, by decide, fun w' G6 a1 b1 D8 s9 => ?_⟩
  refine ⟨_, _, rfl, rfl, by rw [wS_len, wS_len, List.length_append, List.length_replicate]; show _ ≤ 2 ^ 24; omega, ?_⟩
  rw [wS_app]
  refine q _ G6 (fun x hx => ?_) (by rw [List.length_append, List.length_append, List.length_replicate]; omega) (D8.mono (by omega)) (s1.trans ((hd_same sA).trans (s7.trans (s8.trans s9))))
  rcases List.mem_append.mp hx with hx | hx
  · rcases List.mem_append.mp hx with hx | hx
    · rw [List.eq_of_mem_replicate hx]; exact jl
    · exact u2 x hx
  · exact a1 x hx
end
end K28

namespace K28
open PySem L2 GL KC GZ KW KR GM
def spLaw (K : PySem.W.Frag) : Sp := fun vs H Q _ => ∃ (a : Addr) (ns : List Int), vs = [.ref a] ∧ SqL K H a (ns.map V.int) ∧ ns.length ≤ 63 ∧ ∀ H', Q (.bl true) H'
abbrev NL : List Str := ["_law_script", "_law_deck_here", "_law_turn", "_law_letters", "_law_rule_here", "_law_words", "_law_turned", "_law_kept", "_law_word_here", "_law_due", "_law_k", "_law_pair"]
theorem resD_fit {l : Nat} {rs : List Pr} (R : Rul l rs) (l4 : l ≤ 4) {w : List Nat} (hw : ∀ j ∈ w, j < l) (hl : w.length ≤ 500) : Fit 10200 1 (resD w (chg rs w)) := by
  cases e : chg rs w with
  | none => exact fit_non (by decide)
  | some x =>
    have hc := chg_is e
    obtain ⟨c1, c2, c3, c4, c5⟩ := come_len R hc
    have i1 : ((x.1 : Nat) : Int).natAbs < 10 ^ 41 := Nat.lt_of_lt_of_le (show x.1 < 1000 by omega) (by decide +kernel)
    have i2 : ((x.2.1 : Nat) : Int).natAbs < 10 ^ 41 := Nat.lt_of_lt_of_le c4 (by decide +kernel)
    have cl : (come w x).length ≤ 510 := by
      unfold come
      rw [List.length_append, List.length_append, List.length_take, List.length_drop]
      omega
    have cm : ∀ j ∈ come w x, j < 4 := fun j hj => by
      unfold come at hj
      rcases List.mem_append.mp hj with hj | hj
      · rcases List.mem_append.mp hj with hj | hj
        · exact Nat.lt_of_lt_of_le (hw j (List.mem_of_mem_take hj)) l4
        · exact Nat.lt_of_lt_of_le (c5 j hj) l4
      · exact Nat.lt_of_lt_of_le (hw j (List.mem_of_mem_drop hj)) l4
    exact (Fit.tup (FitAll.cons (fit_int (n := 42) (k := 0) i1 (by decide)) (FitAll.cons (fit_int (n := 42) i2 (by decide)) (FitAll.cons (fit_word (n := 5102) cm (by omega)) FitAll.nil)))).mono (by omega) (Nat.le_refl _)
theorem shown_le {K : PySem.W.Frag} {H : Hp} {d : PyData} {v : V} {n k : Nat} (h : Dt K H v d) (f : Fit n k d) (hn : n ≤ 1000000) : d.shown.length ≤ sizeLine := by
  have a := shown_wt d v h
  have b := f.w
  show _ ≤ 2 ^ 24
  omega
theorem seq_asg {a : TE} {g : TG} {z : TS} {D : Ends} {σ : L2.St} {H : Hp} (h : a σ H fun v H1 => g v σ H1 (z D)) : tSeq (tAsg a g) z D σ H := h
/-- the last letter -/
theorem last_at (l : Nat) (h1 : 1 ≤ l) (h4 : l ≤ 4) : atI ("abcd" : Str).cps.toList (((l : Nat) : Int) - 1) = some (97 + (l - 1)) := by
  rcases l with _ | _ | _ | _ | _ | l
  · omega
  · decide +kernel
  · decide +kernel
  · decide +kernel
  · decide +kernel
  · omega
theorem isChg0 : IsChg [([0, 1], [1, 0]), ([1], [0])] [2, 0, 1] (1, 0, [1, 0]) := by
  refine ⟨⟨([0, 1], [1, 0]), rfl, .inl ⟨by unfold At; decide, rfl⟩⟩, fun k i p b hp h => ?_⟩
  show 1 < k ∨ (1 = k ∧ 0 ≤ i)
  rcases k with _ | k
  · exfalso
    rcases i with _ | _ | i
    · cases hp
      rcases h with ⟨a, _⟩ | ⟨a, _⟩
      · revert a; unfold At; decide
      · revert a; unfold At; decide
    · cases hp
      rcases h with ⟨a, _⟩ | ⟨a, _⟩
      · revert a; unfold At; decide
      · revert a; unfold At; decide
    · cases hp
  · omega
theorem rul0 : Rul 3 [([0, 1], [1, 0]), ([1], [0])] := by
  refine ⟨by decide, fun p hp => ?_⟩
  simp only [List.mem_cons, List.not_mem_nil, or_false] at hp
  rcases hp with rfl | rfl
  · exact ⟨by decide, by decide, by decide, by decide, by decide, by decide⟩
  · exact ⟨by decide, by decide, by decide, by decide, by decide, by decide⟩
def tw (ws : List (List Nat)) : List V := ws.map fun u => V.str (wS u)
section
variable {P : Program} {w : World} {K : PySem.W.Frag} {mg : Str → Option Value} {base : Heap}
theorem scL : FnScope ["_law_script", "_law_deck_here", "_law_turn", "_law_letters", "_law_rule_here", "_law_words", "_law_turned", "_law_kept", "_law_word_here", "_law_due", "_law_k", "_law_pair"] ["_law_script"] (defScope sLaw) := ⟨rfl, rfl, rfl, by decide +kernel, rfl, by decide +kernel, by decide +kernel⟩
theorem ok_law {f fK fW fD fR fC fF fP : Addr} {fd fdK fdW fdD fdR fdC fdF fdP : FuncData} (F : Fun K "law" "law" sLaw f fd) (T : Txt mg)
    (DK : Dfn P w K mg base "_law_deck" 1 fK fdK ["_law_script"] (spDeck K)) (W : Dfn P w K mg base "_law_draw" 1 fW fdW ["_law_deck_here", "_law_many"] spDraw)
    (WD : Dfn P w K mg base "_law_word" 3 fD fdD ["_law_deck_here", "_law_letters", "_law_most"] spWord) (RU : Dfn P w K mg base "_law_rule" 3 fR fdR ["_law_deck_here", "_law_letters"] spRule)
    (CD : Dfn P w K mg base "_law_changed" 1 fC fdC ["_law_rule_here", "_law_word_here"] spChg) (FA : Dfn P w K mg base "_law_far" 4 fF fdF ["_law_deck_here", "_law_letters", "_law_rule_here"] spFar)
    (PC : Dfn P w K mg base "change" 1 fP fdP ["rule", "word"] spChg) : Fg P w K mg base CX0 5 f fd ["_law_script"] (spLaw K) := by
  refine ok_g F scL (fun vs H Q E h => ?_) (fun cdv A outer s H vs Q E hg hr h => ?_)
  · obtain ⟨a, ns, rfl, _⟩ := h
    rfl
  obtain ⟨a, ns, rfl, hS, hl, q⟩ := h
  have hr1 : Room 1 _ := hr.mono (by decide)
  have hr3 : Room 3 _ := hr.mono (by decide)
  refine ⟨_, pss_cons (ps_set (i := 1) scL.nd rfl (Or.inr rfl) (pe_call DK.ok hr1 rfl DK.m DK.kp DK.b .nil pass0 (pa_cons (pv 0) pa_nil)))
    (pss_cons (ps_for PassesOwn.never rfl (pi_range1 rfl T.c.range (pa_cons pe_int pa_nil)) (pg_name (i := 2) scL.nd rfl (Or.inl rfl))
      (pss_cons (ps_set (i := 3) scL.nd rfl (Or.inr rfl) (pe_op op_add pe_int (pe_call W.ok hr1 rfl W.m W.kp W.b .nil pass0 (pa_cons (pv 1) (pa_cons pe_int pa_nil)))))
      (pss_cons (ps_set (i := 4) scL.nd rfl (Or.inl rfl) (pe_call RU.ok hr3 rfl RU.m RU.kp RU.b .nil pass0 (pa_cons (pv 1) (pa_cons (pv 3) pa_nil))))
      (pss_cons (ps_set (i := 5) scL.nd rfl (Or.inl rfl) (pe_lst (pa_cons pe_str (pa_cons pe_str (pa_cons (pe_call WD.ok hr3 rfl WD.m WD.kp WD.b .nil pass0 (pa_cons (pv 1) (pa_cons (pv 3) (pa_cons pe_int pa_nil)))) (pa_cons (pe_call FA.ok hr rfl FA.m FA.kp FA.b .nil pass0 (pa_cons (pv 1) (pa_cons (pv 3) (pa_cons (pv 4) pa_nil))))
        (pa_cons (pe_op op_mulS0 (pe_ix ix_str pe_str (pe_op op_sub (pv 3) pe_int) (fun _ _ => rfl)) pe_int) pa_nil)))))))
      (pss_cons (ps_set (i := 5) scL.nd rfl (Or.inl rfl) (pe_op op_cat (pv 5) (pe_lc (own := [("_law_k", 10)]) (g := gName 10) (tt := tYes) rfl scL.nd (pi_range1 rfl T.c.range (pa_cons pe_int pa_nil))
        (blkOk_by (own := [("_law_k", 10)]) (N := NL) (sc := defScope sLaw) (by decide +kernel)) (fun _ _ _ _ _ => pg_name (i := 10) scL.nd rfl (Or.inl rfl)) (fun _ _ _ _ _ => pts_nil)
        (fun _ _ _ _ _ => pe_call WD.ok hr3 rfl WD.m WD.kp WD.b .nil pass0 (pa_cons (pv 1) (pa_cons (pv 3) (pa_cons pe_int pa_nil)))))))
      (pss_cons (ps_par (i := 6) (j := 7) (by rfl) scL.nd rfl rfl (by decide) rfl rfl (pa_cons (pe_callTy call_tuple_of (by rfl) T.c.tuple (by decide +kernel) (pa_cons (pe_lc (own := [("_law_pair", 11)]) (g := gName 11) (tt := tYes) rfl scL.nd (pi_tup (pv 4))
          (blkOk_by (own := [("_law_pair", 11)]) (N := NL) (sc := defScope sLaw) (by decide +kernel)) (fun _ _ _ _ _ => pg_name (i := 11) scL.nd rfl (Or.inl rfl)) (fun _ _ _ _ _ => pts_nil) (fun _ _ _ _ _ => pe_revT (pv 11))) pa_nil))
          (pa_cons (pe_callB (call_reprD hg hr.units) (by rfl) T.repr (by decide +kernel) (pa_cons (pv 4) pa_nil)) pa_nil)) (by rfl))
      (pss_cons (ps_for PassesOwn.never rfl (pi_list (pv 5)) (pg_name (i := 8) scL.nd rfl (Or.inl rfl))
        (pss_cons (ps_set (i := 9) scL.nd rfl (Or.inl rfl) (pe_callB (call_reprD hg hr.units) (by rfl) T.repr (by decide +kernel) (pa_cons (pe_call CD.ok hr1 rfl CD.m CD.kp CD.b .nil pass0 (pa_cons (pv 4) (pa_cons (pv 8) pa_nil))) pa_nil)))
        (pss_cons (ps_if (PW.pt (pw_or (pt_cmpR op_ne (pe_callB (call_reprD hg hr.units) (by rfl) T.repr (by decide +kernel) (pa_cons (pe_call PC.ok hr1 rfl PC.m PC.kp PC.b .nil pass0 (pa_cons (pv 4) (pa_cons (pv 8) pa_nil))) pa_nil)) (pv 9) (nomark _))
            (pw_or (pt_cmpR op_ne (pe_callB (call_reprD hg hr.units) (by rfl) T.repr (by decide +kernel) (pa_cons (pe_call PC.ok hr1 rfl PC.m PC.kp PC.b .nil pass0 (pa_cons (pv 6) (pa_cons (pv 8) pa_nil))) pa_nil)) (pv 9) (nomark _))
            (pw_or1 (pt_cmpR op_ne (pe_callB (call_reprD hg hr.units) (by rfl) T.repr (by decide +kernel) (pa_cons (pe_call PC.ok hr1 rfl PC.m PC.kp PC.b .nil pass0 (pa_cons (pv 4) (pa_cons (pv 8) pa_nil))) pa_nil)) (pv 9) (nomark _)))))) (pss_one (ps_ret pe_bl)) pss_nil)
        (pss_one (ps_if (pt_cmpR op_notN (pe_call PC.ok hr1 rfl PC.m PC.kp PC.b .nil pass0 (pa_cons (pe_tup pa_nil) (pa_cons (pv 8) pa_nil))) pe_non (nomark _)) (pss_one (ps_ret pe_bl)) pss_nil)))))
      (pss_one (ps_if (pt_cmpR op_ne (pe_callB (call_reprD hg hr.units) (by rfl) T.repr (by decide +kernel) (pa_cons (pv 4) pa_nil)) (pv 7) (nomark _)) (pss_one (ps_ret pe_bl)) pss_nil)))))))))
    (pss_one (ps_ret (pe_cmpR op_eq (pe_callB (call_reprD hg hr.units) (by rfl) T.repr (by decide +kernel) (pa_cons (pe_call PC.ok hr1 rfl PC.m PC.kp PC.b .nil pass0 (pa_cons (pe_tup (pa_cons (pe_tup (pa_cons pe_str (pa_cons pe_str pa_nil))) (pa_cons (pe_tup (pa_cons pe_str (pa_cons pe_str pa_nil))) pa_nil)))
      (pa_cons pe_str pa_nil))) pa_nil)) pe_str (nomark _))))), ?_⟩
  refine ⟨_, rfl, a, ns, rfl, hS, hl, fun d c G0 s0 nd nc D0 => ?_⟩
  refine ⟨10, rfl, by decide, by decide, for_range (lo := 0) (n := 10) (fun i σ G => ∃ (k2 k3 k4 k5 k6 k7 k8 k9 : Option V), σ = [some (.ref a), some (.ref d), k2, k3, k4, k5, k6, k7, k8, k9, none, none] ∧ Deck G d c (i * 30000))
      ⟨none, none, none, none, none, none, none, none, rfl, D0⟩ ?_ ?_⟩
  · rintro i σ G hi ⟨k2, k3, k4, k5, k6, k7, k8, k9, rfl, DG⟩
    refine ⟨_, rfl, d, c, 4, _, rfl, DG, by omega, by decide, by decide, fun r1 G1 r10 r11 D1 s1 => ⟨_, _, rfl, rfl, ?_⟩⟩
    obtain ⟨l0, rfl⟩ : ∃ l0 : Nat, r1 = (l0 : Int) := ⟨r1.toNat, by omega⟩
    have l4 : 1 + l0 ≤ 4 := by omega
    refine ⟨_, rfl, _, rfl, d, c, 1 + l0, _, rfl, D1, by omega, by omega, l4, fun pr rs G2 R RA D2 s2 => ?_⟩
    refine ⟨_, rfl, _, rfl, d, c, 1 + l0, 400, _, rfl, D2, by omega, by omega, l4, by decide, fun w1 G3 a1 b1 D3 s3 => ?_⟩
    refine ⟨_, rfl, _, rfl, _, rfl, d, c, pr, 1 + l0, _, rs, rfl, D3, by omega, by omega, l4, RA.same s3, R, fun w2 G4 a2 b2 D4 s4 => ?_⟩
    refine ⟨_, rfl, _, _, rfl, rfl, _, _, 97 + l0, rfl, rfl, by decide, ?_, 97 + l0, 400, rfl, rfl, by decide, by show 5 ≤ 2 ^ 24; decide, fun lw nlw => ?_⟩
    · have := last_at (1 + l0) (by omega) l4
      rw [show 1 + l0 - 1 = l0 by omega] at this
      exact this
    have e0 : [V.str "", V.str "a", V.str (wS w1), V.str (wS w2), V.str (⟨(List.replicate 400 (97 + l0)).toArray⟩ : Str)] = tw [[], [0], w1, w2, List.replicate 400 l0] := by
      have e1 : (⟨(List.replicate 400 (97 + l0)).toArray⟩ : Str) = wS (List.replicate 400 l0) := by unfold wS; rw [List.map_replicate]
      have e2 : V.str "a" = V.str (wS [0]) := by decide +kernel
      rw [e1, e2, ← wS_nil]
      rfl
    have al0 : ∀ u ∈ [[], [0], w1, w2, List.replicate 400 l0], (∀ j ∈ u, j < 1 + l0) ∧ u.length ≤ 400 := by
      simp only [List.forall_mem_cons]
      refine ⟨⟨(fun j h => nomatch h), Nat.zero_le _⟩, ⟨⟨by omega, (fun _ h => nomatch h)⟩, by decide⟩, ⟨a1, by omega⟩, ⟨a2, by omega⟩, ⟨fun j hj => by rw [List.eq_of_mem_replicate hj]; omega, by rw [List.length_replicate]; omega⟩, fun _ h => nomatch h⟩
    have g5 : upd G4 lw (.lst [V.str "", V.str "a", V.str (wS w1), V.str (wS w2), V.str (⟨(List.replicate 400 (97 + l0)).toArray⟩ : Str)]) lw = some (.lst (tw [[], [0], w1, w2, List.replicate 400 l0])) := by rw [upd_same, e0]
    have s5 : Same (Hd d c G4) (Hd d c (upd G4 lw (.lst [V.str "", V.str "a", V.str (wS w1), V.str (wS w2), V.str (⟨(List.replicate 400 (97 + l0)).toArray⟩ : Str)]))) := hd_new nlw _
    have D5 := D4.new nlw (.lst [V.str "", V.str "a", V.str (wS w1), V.str (wS w2), V.str (⟨(List.replicate 400 (97 + l0)).toArray⟩ : Str)])
    have flw := D4.free nlw
    generalize upd G4 lw (.lst [V.str "", V.str "a", V.str (wS w1), V.str (wS w2), V.str (⟨(List.replicate 400 (97 + l0)).toArray⟩ : Str)]) = G5 at g5 s5 D5
    have lw0 : ([[], [0], w1, w2, List.replicate 400 l0] : List (List Nat)).length ≤ 5 := Nat.le_refl _
    generalize [[], [0], w1, w2, List.replicate 400 l0] = ws0 at al0 g5 lw0
    refine ⟨_, rfl, 8, rfl, by decide, by decide, fun L nL => lc_range (lo := 0) (n := 8) (fun j G' => Deck G' d c (i * 30000 + 5000 + 1002 * j) ∧ Same (Hd d c G5) (Hd d c G') ∧ ∃ us : List (List Nat), G' L = some (.lst (tw us)) ∧ us.length = j ∧ ∀ u ∈ us, (∀ j ∈ u, j < 1 + l0) ∧ u.length ≤ 400)
      ⟨(D5.new nL _).mono (by omega), hd_new nL _, [], upd_same, rfl, fun u h => nomatch h⟩ ?_ ?_⟩
    · rintro j G' hj ⟨D6, s6, us, u1, u2, u3⟩
      have fL := D5.free nL
      refine ⟨rfl, _, rfl, _, rfl, d, c, 1 + l0, 8, _, rfl, D6, by omega, by omega, l4, by decide, fun u G6 a3 b3 D7 s7 => ?_⟩
      refine ⟨_, hd_sub _ _ (s7 _ _ (hd_of u1 fL.1 fL.2)), ?_, (D7.mono (by omega)).put fL.1 fL.2 _, hd_grow (hd_none nL) (s6.trans s7) _, us ++ [u], ?_, by rw [List.length_append, u2]; rfl, ?_⟩
      · show (us.map _).length < 2 ^ 24
        rw [List.length_map, u2]
        omega
      · rw [upd_same]
        unfold tw
        rw [List.map_append]
        rfl
      · intro x hx
        rcases List.mem_append.mp hx with hx | hx
        · exact u3 x hx
        · rw [List.mem_singleton.mp hx]; exact ⟨a3, by omega⟩
    · rintro G6 ⟨D6, s6, us, u1, u2, u3⟩
      have l0s : (tw ws0).length ≤ 5 := Nat.le_trans (Nat.le_of_eq (List.length_map _)) lw0
      refine ⟨lw, L, _, _, rfl, rfl, hd_sub _ _ (s6 _ _ (hd_of g5 flw.1 flw.2)), u1, ?_, fun lx nlx => ?_⟩
      · show (tw ws0).length + (us.map _).length ≤ 2 ^ 24
        rw [List.length_map, u2]
        omega
      have e6 : tw ws0 ++ tw us = tw (ws0 ++ us) := by unfold tw; rw [List.map_append]
      rw [e6]
      have al : ∀ u ∈ ws0 ++ us, (∀ j ∈ u, j < 1 + l0) ∧ u.length ≤ 400 := fun u hu => by
        rcases List.mem_append.mp hu with hu | hu
        · exact al0 u hu
        · exact u3 u hu
      have D7 := D6.new nlx (.lst (tw (ws0 ++ us)))
      have s7 : Same (Hd d c G2) (Hd d c (upd G6 lx (.lst (tw (ws0 ++ us))))) := s3.trans (s4.trans (s5.trans (s6.trans (hd_new nlx _))))
      have g7 : upd G6 lx (.lst (tw (ws0 ++ us))) lx = some (.lst (tw (ws0 ++ us))) := upd_same
      generalize upd G6 lx (.lst (tw (ws0 ++ us))) = G7 at D7 s7 g7
      generalize ws0 ++ us = ws at al g7
      have RA7 : RuleAt G7 pr rs := (RA.same s7).same hd_sub
      obtain ⟨ts, h1, h2, h3⟩ := RA7.ex
      have six := R.len
      refine ⟨_, rfl, pr, rfl, ⟨_, .inl (.inl h1)⟩, fun L2 nL2 => lc_tup (K := K) (a := pr) (xs := ts.map V.ref) (fun j G' => Same G7 G' ∧ ∃ us : List Addr, G' L2 = some (.lst (us.map V.ref)) ∧ us.length = j ∧ ∀ (k : Nat) (p : Pr), k < j → rs[k]? = some p → ∃ t : Addr, us[k]? = some t ∧ G' t = some (.tup [.str (wS p.2), .str (wS p.1)]))
        ⟨same_new nL2 _, [], upd_same, rfl, fun k p h => absurd h (Nat.not_lt_zero k)⟩ (fun j G' _ h => .inl (.inl (h.1 _ _ h1))) ?_ ?_⟩
      · rintro j x G' hx ⟨s8, us, v1, v2, v3⟩
        have jl : j < ts.length := by
          have := (List.getElem?_eq_some_iff.mp hx).1
          rw [List.length_map] at this
          exact this
        obtain ⟨p, hp⟩ : ∃ p, rs[j]? = some p := ⟨_, List.getElem?_eq_getElem (by omega)⟩
        obtain ⟨t, t1, t2⟩ := h3 j p hp
        rw [List.getElem?_map, t1] at hx
        cases hx
        refine ⟨rfl, _, rfl, t, _, rfl, s8 _ _ t2, fun t' nt' => ?_⟩
        have s9 := same_new nt' (.tup [V.str (wS p.1), V.str (wS p.2)].reverse)
        have tL : t' ≠ L2 := fun e => by rw [e, v1] at nt'; cases nt'
        refine ⟨_, s9 _ _ v1, by rw [List.length_map]; show _ < 2 ^ 24; omega, same_grow nL2 (s8.trans s9) _, us ++ [t'], by rw [upd_same, List.map_append]; rfl, by rw [List.length_append, v2]; rfl, fun k p' hk hp' => ?_⟩
        by_cases e : k = j
        · subst e
          rw [hp] at hp'
          cases hp'
          refine ⟨t', by rw [List.getElem?_append_right (by omega), v2, Nat.sub_self]; rfl, ?_⟩
          rw [upd_ne tL, upd_same]
          rfl
        · obtain ⟨t3, b3, b4⟩ := v3 k p' (by omega) hp'
          refine ⟨t3, by rw [List.getElem?_append_left (by omega)]; exact b3, ?_⟩
          have b5 := s9 _ _ b4
          rw [upd_ne (ne_of b5 (s9 _ _ v1) fun z => nomatch z)]
          exact b5
      · rintro G8 ⟨s8, us, v1, v2, v3⟩
        rw [List.length_map, h2] at v2 v3
        refine ⟨L2, _, rfl, .inl ⟨.inl (.inl v1), fun pt npt => ?_⟩⟩
        have s9 := s8.trans (same_new npt (.tup (us.map V.ref)))
        have RB : RuleAt (upd G8 pt (.tup (us.map V.ref))) pt (rs.map sw) := by
          refine ⟨us, upd_same, by rw [v2, List.length_map], fun k p hp => ?_⟩
          rw [List.getElem?_map] at hp
          cases e : rs[k]? with
          | none => rw [e] at hp; cases hp
          | some p' =>
            rw [e] at hp
            cases hp
            obtain ⟨t3, b3, b4⟩ := v3 k p' (List.getElem?_eq_some_iff.mp e).1 e
            exact ⟨t3, b3, same_new npt _ _ _ b4⟩
        generalize upd G8 pt (.tup (us.map V.ref)) = G9 at s9 RB
        have g9 := s9 _ _ g7
        have RA9 := RA7.same s9
        have fr := R.fit l4
        have shr : ∀ G', Same G9 G' → Dt K G' (.ref pr) (rD rs) ∧ (rD rs).showable = true ∧ (rD rs).depth ≤ 60 ∧ (rD rs).shown.length ≤ sizeLine := fun G' s => ⟨(RA9.same s).dt, fr.s, Nat.le_trans fr.k (by decide), shown_le (RA9.same s).dt (K := K) fr (by decide)⟩
        obtain ⟨m1, m2, m3, m4⟩ := shr G9 (Same.refl _)
        refine ⟨_, rfl, _, rD rs, rfl, m1, m2, m3, m4, _, _, rfl, ?_⟩
        refine ⟨_, rfl, lx, rfl, ⟨_, .inl (.inl g9)⟩, for_list (K := K) (a := lx) (xs := tw ws) (fun j σ G' => ∃ (x8 x9 : Option V), σ = [some (.ref a), some (.ref d), some (.int (0 + i)), some (.int (1 + l0 : Nat)), some (.ref pr), some (.ref lx), some (.ref pt), some (.str (rD rs).shown), x8, x9, none, none] ∧ Same G9 G')
          ⟨k8, k9, rfl, Same.refl _⟩ (fun j σ G' _ h => let ⟨_, _, _, s⟩ := h; .inl (.inl (s _ _ g9))) ?_ ?_⟩
        · rintro j v σ G' hv ⟨x8, x9, rfl, sG⟩
          obtain ⟨u, hu, rfl⟩ : ∃ u, u ∈ ws ∧ v = V.str (wS u) := by
            obtain ⟨u, hu, e⟩ := List.mem_map.mp (List.mem_of_getElem? hv)
            exact ⟨u, hu, e.symm⟩
          obtain ⟨ua, ub⟩ := al u hu
          have fu := resD_fit R l4 ua (by omega)
          refine ⟨_, rfl, _, rfl, pr, 1 + l0, rs, u, rfl, RA9.same sG, R, by omega, fun v1 H1 t1 r1 => ?_⟩
          refine ⟨_, _, rfl, r1.dt, fu.s, Nat.le_trans fu.k (by decide), shown_le (K := K) r1.dt fu (by decide), ?_⟩
          refine ⟨_, rfl, _, rfl, pr, 1 + l0, rs, u, rfl, RA9.same (sG.trans t1), R, by omega, fun v2 H2 t2 r2 => ?_⟩
          refine ⟨_, _, rfl, r2.dt, fu.s, Nat.le_trans fu.k (by decide), shown_le (K := K) r2.dt fu (by decide), _, rfl, rfl, _, rfl, iteNS rfl ?_⟩
          refine ⟨_, rfl, _, rfl, pt, 1 + l0, rs.map sw, u, rfl, RB.same (sG.trans (t1.trans t2)), R.sw, by omega, fun v3 H3 t3 r3 => ?_⟩
          rw [chg_sw R R.sw u] at r3
          refine ⟨_, _, rfl, r3.dt, fu.s, Nat.le_trans fu.k (by decide), shown_le (K := K) r3.dt fu (by decide), _, rfl, rfl, _, rfl, iteNS rfl ?_⟩
          refine ⟨_, rfl, _, rfl, pr, 1 + l0, rs, u, rfl, RA9.same (sG.trans (t1.trans (t2.trans t3))), R, by omega, fun v4 H4 t4 r4 => ?_⟩
          refine ⟨_, _, rfl, r4.dt, fu.s, Nat.le_trans fu.k (by decide), shown_le (K := K) r4.dt fu (by decide), _, rfl, rfl, _, rfl, iteNS rfl ?_⟩
          refine ⟨by show 0 ≤ 2 ^ 24; decide, fun pe npe => ⟨_, rfl, pe, 3, [], u, rfl, ⟨[], upd_same, rfl, fun k p hp => by cases hp⟩, ⟨by decide, fun p hp => nomatch hp⟩, by omega, fun v5 H5 t5 r5 => ?_⟩⟩
          rw [chg_none (rs := []) fun k i p b hp => by cases hp] at r5
          have e5 : v5 = .non := r5
          subst e5
          refine ⟨rfl, _, rfl, iteNS rfl ?_⟩
          exact ⟨_, _, rfl, sG.trans (t1.trans (t2.trans (t3.trans (t4.trans ((same_new npe _).trans t5)))))⟩
        · rintro σ G' ⟨x8, x9, rfl, sG⟩
          obtain ⟨m1, m2, m3, m4⟩ := shr G' sG
          refine ⟨_, rfl, _, rD rs, rfl, m1, m2, m3, m4, _, rfl, rfl, _, rfl, iteNS rfl ?_⟩
          exact ⟨_, _, _, _, _, _, _, _, rfl, (D7.same (s9.trans sG)).mono (by omega)⟩
  · rintro σ G ⟨k2, k3, k4, k5, k6, k7, k8, k9, rfl, DG⟩
    refine ⟨by show 2 ≤ 2 ^ 24; decide, fun p1 n1 => ⟨by show 2 ≤ 2 ^ 24; decide, fun p2 n2 => ⟨by show 2 ≤ 2 ^ 24; decide, fun p3 n3 => ?_⟩⟩⟩
    have t1 := same_new n1 (.tup [V.str "ab", V.str "ba"])
    have t2 := same_new n2 (.tup [V.str "b", V.str "a"])
    have t3 := same_new n3 (.tup [V.ref p1, V.ref p2])
    have w1 : V.str "ab" = V.str (wS [0, 1]) := by decide +kernel
    have w2 : V.str "ba" = V.str (wS [1, 0]) := by decide +kernel
    have w3 : V.str "b" = V.str (wS [1]) := by decide +kernel
    have w4 : V.str "a" = V.str (wS [0]) := by decide +kernel
    refine ⟨p3, 3, [([0, 1], [1, 0]), ([1], [0])], [2, 0, 1], by rw [show V.str "cab" = V.str (wS [2, 0, 1]) by decide +kernel]; rfl, ⟨[p1, p2], upd_same, rfl, fun k p hp => ?_⟩, rul0, by decide, fun v G2 s2 r => ?_⟩
    · rcases k with _ | _ | k
      · cases hp
        refine ⟨p1, rfl, t3 _ _ (t2 _ _ ?_)⟩
        rw [← w1, ← w2]
        exact upd_same
      · cases hp
        refine ⟨p2, rfl, t3 _ _ ?_⟩
        rw [← w3, ← w4]
        exact upd_same
      · cases hp
    rw [chg_some rul0 isChg0] at r
    refine ⟨_, _, rfl, r.dt, by decide +kernel, by decide +kernel, by decide +kernel, rfl, ?_⟩
    have ee : (resD [2, 0, 1] (some (1, 0, [1, 0]))).shown = ("(1, 0, 'cba')" : Str) := by decide +kernel
    show Q (.bl (decide (V.str (resD [2, 0, 1] (some (1, 0, [1, 0]))).shown = V.str "(1, 0, 'cba')"))) _
    rw [ee, decide_eq_true rfl]
    exact q _
end
end K28

namespace K28
open PySem L2 GL KC GZ KW KR GM
theorem all_mk {l : PySem.W.OpenLaw} {w : World} {K : PySem.W.Frag} {h : Heap} {mg : Str → Option Value} {fa : Addr} (X : K.In h) (G : h.Ns mainGlobals mg) (hfa : mg "law" = some (.ref fa))
    {f1 f3 f4 f5 f6 f7 f8 f9 f10 : Addr} {d1 d3 d4 d5 d6 d7 d8 d9 d10 : FuncData}
    (F1 : DF K "change" sChange f1 d1) (F3 : DF K "_law_deck" sDeck f3 d3) (F4 : DF K "_law_draw" sDraw f4 d4) (F5 : DF K "_law_one" sOne f5 d5) (F6 : DF K "_law_word" sWord f6 d6) (F7 : DF K "_law_rule" sRule f7 d7) (F8 : DF K "_law_changed" sChanged f8 d8) (F9 : DF K "_law_far" sFar f9 d9) (F10 : DF K "law" sLaw f10 d10)
    (z0 : PySem.W.nsIn K mainGlobals "int" = some none) (z1 : PySem.W.nsIn K mainGlobals "tuple" = some none) (z2 : PySem.W.nsIn K mainGlobals "len" = some none) (z3 : PySem.W.nsIn K mainGlobals "abs" = some none) (z4 : PySem.W.nsIn K mainGlobals "range" = some none) (z5 : PySem.W.nsIn K mainGlobals "repr" = some none) (z6 : PySem.W.nsIn K mainGlobals "min" = some none) (z7 : PySem.W.nsIn K mainGlobals "enumerate" = some none)  :
    ∃ fd : FuncData, (∀ (s : Shared) (v : Value), BindsTo s fd ⟨[v], []⟩ [("_law_script", v)]) ∧ ∀ base : Heap, K.In base → base.Ns mainGlobals mg → Fg l.prog w K mg base CX0 5 fa fd ["_law_script"] (spLaw K) := by
  have e := hfa.symm.trans (PySem.W.mg_of X G F10.ns)
  cases e
  have C : TxC mg := ⟨PySem.W.mg_none_of X G z0, PySem.W.mg_none_of X G z1, PySem.W.mg_none_of X G z2, PySem.W.mg_none_of X G z3, PySem.W.mg_none_of X G z4⟩
  have T : Txt mg := ⟨C, PySem.W.mg_none_of X G z5, PySem.W.mg_none_of X G z6, PySem.W.mg_none_of X G z7⟩
  refine ⟨d10, fun s v => ?_, fun base _ _ => ?_⟩
  · obtain ⟨oc, od, kV, doc, pm, an, cdv, ct, osl, rfl, _, _⟩ := F10.fn.ex
    exact .of_eq rfl
  have B1 : L2.Binds K d1 ["rule", "word"] [] := F1.fn.binds fun _ _ _ _ _ _ us hl => match us, hl with | [_, _], _ => rfl
  have D1 : Dfn l.prog w K mg base "change" 1 f1 d1 ["rule", "word"] spChg := ⟨ok_change F1.fn T, B1, PySem.W.mg_of X G F1.ns, F1.fn.kp⟩
  have B3 : L2.Binds K d3 ["_law_script"] [] := F3.fn.binds fun _ _ _ _ _ _ us hl => match us, hl with | [_], _ => rfl
  have D3 : Dfn l.prog w K mg base "_law_deck" 1 f3 d3 ["_law_script"] (spDeck K) := ⟨ok_deck F3.fn C, B3, PySem.W.mg_of X G F3.ns, F3.fn.kp⟩
  have B4 : L2.Binds K d4 ["_law_deck_here", "_law_many"] [] := F4.fn.binds fun _ _ _ _ _ _ us hl => match us, hl with | [_, _], _ => rfl
  have D4 : Dfn l.prog w K mg base "_law_draw" 1 f4 d4 ["_law_deck_here", "_law_many"] spDraw := ⟨ok_draw F4.fn C, B4, PySem.W.mg_of X G F4.ns, F4.fn.kp⟩
  have B5 : L2.Binds K d5 ["_law_deck_here", "_law_items"] [] := F5.fn.binds fun _ _ _ _ _ _ us hl => match us, hl with | [_, _], _ => rfl
  have D5 : Dfn l.prog w K mg base "_law_one" 2 f5 d5 ["_law_deck_here", "_law_items"] spOne := ⟨ok_one F5.fn C D4, B5, PySem.W.mg_of X G F5.ns, F5.fn.kp⟩
  have D5s : Dfn l.prog w K mg base "_law_one" 2 f5 d5 ["_law_deck_here", "_law_items"] spOneT := ⟨ok_oneT F5.fn T D4, B5, PySem.W.mg_of X G F5.ns, F5.fn.kp⟩
  have B6 : L2.Binds K d6 ["_law_deck_here", "_law_letters", "_law_most"] [] := F6.fn.binds fun _ _ _ _ _ _ us hl => match us, hl with | [_, _, _], _ => rfl
  have D6 : Dfn l.prog w K mg base "_law_word" 3 f6 d6 ["_law_deck_here", "_law_letters", "_law_most"] spWord := ⟨ok_word F6.fn T D4 D5s, B6, PySem.W.mg_of X G F6.ns, F6.fn.kp⟩
  have B7 : L2.Binds K d7 ["_law_deck_here", "_law_letters"] [] := F7.fn.binds fun _ _ _ _ _ _ us hl => match us, hl with | [_, _], _ => rfl
  have D7 : Dfn l.prog w K mg base "_law_rule" 3 f7 d7 ["_law_deck_here", "_law_letters"] spRule := ⟨ok_rule F7.fn T D4 D5s, B7, PySem.W.mg_of X G F7.ns, F7.fn.kp⟩
  have B8 : L2.Binds K d8 ["_law_rule_here", "_law_word_here"] [] := F8.fn.binds fun _ _ _ _ _ _ us hl => match us, hl with | [_, _], _ => rfl
  have D8 : Dfn l.prog w K mg base "_law_changed" 1 f8 d8 ["_law_rule_here", "_law_word_here"] spChg := ⟨ok_changed F8.fn T, B8, PySem.W.mg_of X G F8.ns, F8.fn.kp⟩
  have B9 : L2.Binds K d9 ["_law_deck_here", "_law_letters", "_law_rule_here"] [] := F9.fn.binds fun _ _ _ _ _ _ us hl => match us, hl with | [_, _, _], _ => rfl
  have D9 : Dfn l.prog w K mg base "_law_far" 4 f9 d9 ["_law_deck_here", "_law_letters", "_law_rule_here"] spFar := ⟨ok_far F9.fn T D4 D5 D5s D6, B9, PySem.W.mg_of X G F9.ns, F9.fn.kp⟩
  exact ok_law F10.fn T D3 D4 D6 D7 D8 D9 D1
end K28

open PySem PySem.W PyProof.Rows
set_option maxRecDepth 100000 in
set_option maxHeartbeats 0 in
theorem PySem.Challenge.cw_pairedaway_k28_changes_holds : PySem.Challenge.rw_pairedaway_k28_changes.Holds := by
  w_on; o_law; k_head; (case hw => w_witness2)
  k_fill
  refine GL.walk_g (l := PySem.Challenge.rw_pairedaway_k28_changes) (n := 63) (k := 5) (x := "_law_script") (sp := K28.spLaw) rfl (by decide) rfl ⟨rfl, by decide, by decide⟩ (fun w h Y => PySem.W.kIn_of Y) ?F (fun K H a ns hl _ hS => ⟨a, ns, rfl, hS, hl, fun _ => rfl⟩)
  case F =>
    intro w mg fa h KX G hmg
    refine' K28.all_mk KX G hmg (KC.df ?a1 ?l1 ?c1 ?k1) (KC.df ?a3 ?l3 ?c3 ?k3) (KC.df ?a4 ?l4 ?c4 ?k4) (KC.df ?a5 ?l5 ?c5 ?k5) (KC.df ?a6 ?l6 ?c6 ?k6) (KC.df ?a7 ?l7 ?c7 ?k7) (KC.df ?a8 ?l8 ?c8 ?k8) (KC.df ?a9 ?l9 ?c9 ?k9) (KC.df ?a10 ?l10 ?c10 ?k10) ?z0 ?z1 ?z2 ?z3 ?z4 ?z5 ?z6 ?z7 
    (case a1 => k_is); (case l1 => k_is); (case c1 => k_is); (case k1 => k_is)
    (case a3 => k_is); (case l3 => k_is); (case c3 => k_is); (case k3 => k_is)
    (case a4 => k_is); (case l4 => k_is); (case c4 => k_is); (case k4 => k_is)
    (case a5 => k_is); (case l5 => k_is); (case c5 => k_is); (case k5 => k_is)
    (case a6 => k_is); (case l6 => k_is); (case c6 => k_is); (case k6 => k_is)
    (case a7 => k_is); (case l7 => k_is); (case c7 => k_is); (case k7 => k_is)
    (case a8 => k_is); (case l8 => k_is); (case c8 => k_is); (case k8 => k_is)
    (case a9 => k_is); (case l9 => k_is); (case c9 => k_is); (case k9 => k_is)
    (case a10 => k_is); (case l10 => k_is); (case c10 => k_is); (case k10 => k_is)
    (case z0 => k_is)
    (case z1 => k_is)
    (case z2 => k_is)
    (case z3 => k_is)
    (case z4 => k_is)
    (case z5 => k_is)
    (case z6 => k_is)
    (case z7 => k_is)
