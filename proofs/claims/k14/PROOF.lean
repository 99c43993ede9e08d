import PyProof.Rows.All
import Wide.All
import OpenK.AllK
import Wide.FinOn
import PyProof.GenCompD
import PyProof.WalksMore
import HandS.ForMost
import HandS.EndTab
import HandS.EndOwn
import HandS.AnyAll
import HandS.IsInst
import PyProof.ReprRoads
import KE.KIndexOf
import KE.KRevSl
import HandS.Conv
import HandS.Style
import KE.KNest
import KE.DataEq
import HandS.Deep
import HandS.TupAny
import HandS.Zip
import KE.DataMinMax
import KE.GoesEnum
import KE.GoesMore
import HandS.Walk
import HandS.WideBits
import KE.SortData
import HandS.TupLe
import PySem.Challenge.RW_lowerboards_k14_whole_words_and_their_or
set_option Elab.async false
set_option linter.all false
set_option maxRecDepth 100000
set_option maxHeartbeats 2000000
namespace Lb
open PySem PySem.Spec PyProof.Rows L2 GxR

section
variable {X : Cx} {pins : List (Addr × Obj)} {σ : L2.St} {H : Hp} {s : Shared}

/-- the element of a generator expression: a test of the item v, told for any frame of it -/
def EltD (X : Cx) (scope : Scope) (x : Str) (elt : Expr) (ok : V → Prop) (pb : V → Bool) : Prop :=
  ∀ (cenv : Env) (A' : Around) (E' : Value → Shared → Prop) (v : V) (u : Value) (s₂ : Shared) (m₂ : Str → Option Value),
    L2.Mod X.K X.mg X.base → RelV v u → ok v → A'.handled = none → A'.depth ≤ X.A.depth + 1 → A'.units ≤ X.A.units + 8 → cenv.scope = scope → cenv.globals = mainGlobals → cenv.builtins = builtinsNs →
    (∀ b o, X.base.get? b = some o → s₂.heap.get? b = some o) → s₂.heap.Ns cenv.locals m₂ → m₂ x = some u →
    wpAny (model X.prog X.w) A' (eval elt cenv) (fun y s₃ => y = .bool (pb v) ∧ Keeps s₂ s₃) E' s₂

def trL (pb : V → Bool) (l : List V) (j : Nat) : Bool := (l[j]?.map pb).getD false
theorem trL_some {pb : V → Bool} {l : List V} {j : Nat} {b : V} (h : l[j]? = some b) : trL pb l j = pb b := by
  unfold trL
  rw [h]
  rfl
theorem all_trL (pb : V → Bool) : ∀ l : List V, (List.range l.length).all (trL pb l) = l.all pb
  | [] => rfl
  | b :: r => by
    rw [List.length_cons, List.range_succ_eq_map, List.all_cons, List.all_map, List.all_cons, ← all_trL pb r]
    rfl

/-- the generator at g yields a truth for each item of xs; once it has been walked, the heap is as it was but for its def's table -/
def ReadyL (X : Cx) (pins : List (Addr × Obj)) (σ : L2.St) (H1 : Hp) (P : Addr) (xs : List V) (pb : V → Bool) (g : Addr) (s5 : Shared) : Prop :=
  ∃ fp wr Gs Yl At, WalksS X.prog X.w X.A.in1 g fp wr Gs xs.length Yl At ∧ At 0 s5 ∧ TruthOf X.prog X.w X.A.in1 Yl (trL pb xs) ∧ ∀ z, Moved wr Gs s5 z → ∃ H2, Tabbed P H1 H2 ∧ Inv X pins σ H2 z

/-- a list or a tuple, as it is read -/
def SeqLT (K : PySem.W.Frag) (H : Hp) (a : Addr) (xs : List V) : Prop := SqL K H a xs ∨ SqT K H a xs

/-- what the iterator over a seq at a is, as the generator sees it: the iterator is the next object, o -/
structure Feed (P : Program) (w : World) (h : Heap) (a : Addr) (xs : List V) (o : Obj) (its : List Value) (At : Nat → Heap → Prop) : Prop where
  rel : Vals xs its
  low : a < h.objs.size
  cls : ∀ p u, h.get? p = some u → u.cls = .none → p ≠ a
  walk : ∀ B : Around, B.handled = none → Walks P w B h.objs.size [h.objs.size, a] [h.objs.size] xs.length (fun i v => its[i]? = some v) At
  at0 : At 0 (h.push o)
theorem iter_seq {a : Addr} {xs : List V} {Q : Value → Shared → Prop} {E : Value → Shared → Prop} (I : Inv X pins σ H s) (hq : SeqLT X.K H a xs)
    (done : ∀ o its At, Feed X.prog X.w s.heap a xs o its At → Q (.ref s.heap.objs.size) { s with heap := s.heap.push o }) : wpAny (model X.prog X.w) X.A (pyIter (.ref a)) Q E s := by
  rcases hq with hq | hq
  · obtain ⟨its, rel, laid, _⟩ := I.list hq
    have isL := laid.isList
    obtain ⟨oa, ga, ca, _⟩ := id isL
    have nsz : its.toArray.size = xs.length := by rw [List.size_toArray, rel.length]
    refine wpAny_pyIter_list isL (done _ its (fun i m => m.IsListIter s.heap.objs.size a i ∧ m.IsList a its.toArray) ⟨rel, Heap.lt_size ga, fun p u gp cp e => ?_, fun B hB => ?_, ⟨⟨_, Heap.get?_push_size _ rfl, rfl, rfl⟩, isL.push _⟩⟩)
    · rw [e, ga] at gp
      cases gp
      rw [cp] at ca
      cases ca
    · have W := Walks.list (prog := X.prog) (w := X.w) hB s.heap.objs.size a (Nat.ne_of_lt (Heap.lt_size ga)) its.toArray
      rw [nsz] at W
      simpa using W
  · obtain ⟨its, rel, laid, _⟩ := I.tuple hq
    have isT : s.heap.IsTuple a its.toArray := laid
    obtain ⟨oa, ga, ca, _⟩ := id isT
    have nsz : its.toArray.size = xs.length := by rw [List.size_toArray, rel.length]
    refine wpAny_pyIter_tuple isT (done _ its (fun i m => m.IsTupleIter s.heap.objs.size a i ∧ m.IsTuple a its.toArray) ⟨rel, Heap.lt_size ga, fun p u gp cp e => ?_, fun B hB => ?_, ⟨⟨_, Heap.get?_push_size _ rfl, rfl, rfl⟩, isT.at fun _ e => Heap.get?_push_of_some _ e⟩⟩)
    · rw [e, ga] at gp
      cases gp
      rw [cp] at ca
      cases ca
    · have W := Walks.tuple (prog := X.prog) (w := X.w) hB s.heap.objs.size a (Nat.ne_of_lt (Heap.lt_size ga)) its.toArray
      rw [nsz] at W
      simpa using W

/-- the generator expression's code object is the one in the def's table, or one that is put there -/
theorem code_in_table {env : Env} {c P : Addr} {tab : Array Value} {pos : Pos} {qn : Str} {scope : Scope} {Q : Value → Shared → Prop} {E : Value → Shared → Prop} {P0 : Program} {w0 : World} {A : Around} (hc : env.code = .ref c) (cd : PySem.W.CodeHd s.heap c P)
    (gP : s.heap.get? P = some { cls := .none, data := .fields tab }) (tr : TriplesOk tab.toList)
    (done : ∀ code h' tk more, Heap.ExtBut P s.heap h' → s.heap.objs.size ≤ h'.objs.size → h'.get? P = some { cls := .none, data := .fields (tab ++ more) } → TriplesOk (tab ++ more).toList → Q code { s with heap := h', toks := tk }) :
    wpAny (model P0 w0) A (genexprCode env pos qn scope) Q E s := by
  match q : codeAmong pos tab.toList with
  | some k => exact wpAny_genexprCode_hit hc (cd.code gP tr) q (done k s.heap s.toks #[] (.refl _ _) (Nat.le_refl _) (by rw [Array.append_empty]; exact gP) (by rw [Array.append_empty]; exact tr))
  | none =>
    refine wpAny_genexprCodeX hc (cd.code gP tr) (cd.tab gP) q fun k h' tk ext ge lt is _ at_ _ => ?_
    obtain ⟨_, _, _, _, _, _, _, _, _, _, _, _, _, _, _, _, _, _, _, tr', _⟩ := is
    exact done _ h' tk _ ext (Nat.le_of_lt (Nat.lt_of_le_of_lt ge lt)) at_.2 tr'

theorem gen_seq {c P : Addr} {elt iter : Expr} {x : Str} {px gpos : Pos} {scope : Scope} {ok : V → Prop} {pb : V → Bool} {te : TE} {k : Nat} {Q' : Value → Shared → Prop} {R : List V → Hp → Prop}
    (room : Room k X.A) (TB : GxR.TabB X.base X.mg c P) (own : X.env.code = .ref c) (S : GenS X.env scope x) (src : PE X iter te) (hel : EltD X scope x elt ok pb) (nofold : ∀ v, genFold iter X.env v = pure v) (I : Inv X pins σ H s)
    (h : te σ H fun v H1 => ∃ (a : Addr) (xs : List V), v = .ref a ∧ SeqLT X.K H1 a xs ∧ (∀ v ∈ xs, ok v) ∧ TabG H1 P ∧ R xs H1) (hQ : ∀ xs H1 g s5, R xs H1 → ReadyL X pins σ H1 P xs pb g s5 → Q' (.ref g) s5) :
    wpAny (model X.prog X.w) X.A (eval (.GeneratorExp elt [⟨.Name x px, iter, [], 0⟩] scope gpos) X.env) Q' X.xe s := by
  have deep : X.A.depth < recursionLimit := by have := room.dp; omega
  refine wpAny_GeneratorExp_walksQD room.hd S.co (closure_ok S.free) S.cell S.dot S.loc S.kind deep (thn (src.run pins s σ H _ I h) fun u0 s1 ⟨v0, H1, I1, r0, a, xs, e0, hq, oks, ⟨tab, tP, tr⟩, hR⟩ => ?_) nofold
  subst e0
  cases (show u0 = Value.ref a from r0)
  refine iter_seq I1 hq fun o its At F => ?_
  -- the table's own place, and what stands elsewhere
  have gP : s1.heap.get? P = some { cls := .none, data := .fields tab } := I1.hok P _ tP
  have lowP := Heap.lt_size gP
  have grow : ∀ b u, s1.heap.get? b = some u → (s1.heap.push o).get? b = some u := fun b u e => Heap.get?_push_of_some _ e
  have nl := I1.nolimit.push o
  have stat : cStatics < s1.heap.objs.size ∧ cStatics ≠ P := by
    obtain ⟨_, ns, _⟩ := I1.nolimit
    refine ⟨ns.lt, fun e => ?_⟩
    obtain ⟨ob, _, _, g, d, _⟩ := ns
    rw [e, gP] at g
    cases g
    cases d
  refine ⟨nl, code_in_table own (TB.code.keeps fun b u e => grow b u (I1.bk b u e)) (grow P _ gP) tr fun code h3 tk more ext big gP3 tr3 => ?_⟩
  have szo : (s1.heap.push o).objs.size = s1.heap.objs.size + 1 := Heap.size_push ..
  have room3 : s1.heap.objs.size < h3.objs.size := by
    have b2 := big
    rw [szo] at b2
    exact b2
  have stays : ∀ b u, b ≠ P → s1.heap.get? b = some u → h3.get? b = some u := fun b u nb e => ext b u nb (grow b u e)
  have based : ∀ b u, X.base.get? b = some u → b ≠ P ∧ s1.heap.get? b = some u := fun b u e => by
    refine ⟨fun z => ?_, I1.bk b u e⟩
    have no := (I1.bs b u e).2
    rw [z, tP] at no
    cases no
  obtain ⟨bm, ob, b1, b2, b3, b4, b5, b6, b7, b8⟩ := TB.bm
  refine wpAny_builtinsFor (m := X.mg) (by rw [I1.ok.glob]; exact Heap.Ns.extBut ((I1.mod.glob.keeps I1.bk).push o) ext TB.gP) b1 b2 (stays _ _ b4 (I1.bk _ _ b5)) b6 b7 b8 ?_
  have foot : ∀ b ∈ [s1.heap.objs.size, a], b ≠ P ∧ b < h3.objs.size := fun b hb => by
    simp only [List.mem_cons, List.not_mem_nil, or_false] at hb
    rcases hb with e | e <;> rw [e]
    · exact ⟨(Nat.ne_of_lt lowP).symm, room3⟩
    · exact ⟨(F.cls P _ gP rfl).symm, Nat.lt_trans F.low room3⟩
  refine ⟨_, _, [s1.heap.objs.size], xs.length, fun i y => its[i]? = some y, At, fun _ => true, fun i y => ∃ d, xs[i]? = some d ∧ y = .bool (pb d), rfl, F.walk, ?_, fun b hb => (foot b hb).2, nl.extBut ext stat.2, fun e => Nat.ne_of_lt stat.1 (List.mem_singleton.mp e), fun later kept => ⟨?_, ?_⟩, ?_⟩
  · exact (F.walk X.A room.hd).frame _ _ _ F.at0 fun b hb u e => ext b u (foot b hb).1 e
  · intro B E' i y t mt _ _ _ _ _ _ _
    simp only [List.forIn_nil]
    exact wpAny_pure ⟨rfl, keeps_refl _⟩
  · intro B E' i y t mt hB dB uB hy _ ln lm lk
    have lt : i < xs.length := by
      rw [F.rel.length]
      exact (List.getElem?_eq_some_iff.mp hy).1
    have at_ := List.getElem?_eq_getElem lt
    obtain ⟨y', hy', ry⟩ := F.rel.get at_
    cases hy.symm.trans hy'
    refine wpAny_mono (hel _ B E' xs[i] y t mt I1.ok.mod ry (oks _ (List.getElem_mem lt)) hB dB uB rfl I1.ok.glob rfl (fun b u e => ?_) ln lm) (fun z t' r => ⟨⟨_, at_, r.1⟩, r.2⟩) fun _ _ e => e
    obtain ⟨nb, eb⟩ := based b u e
    have e3 := stays b u nb eb
    exact lk b (List.mem_range.mpr (Heap.lt_size e3)) (fun z => Nat.ne_of_lt (Heap.lt_size eb) (List.mem_singleton.mp z)) u (kept b u e3)
  · intro g h5 tk5 gen bare gt sz5 keep5 W5 start
    simp only [GxR.passing_true, List.length_range] at W5
    refine hQ xs H1 g _ hR ⟨_, _, _, _, _, W5.in4_1, start, fun j y t Qj Ej hy hj => ?_, fun z mv => ?_⟩
    · obtain ⟨i, hi, d, hd, rfl⟩ := hy
      obtain ⟨_, ei⟩ := List.getElem?_eq_some_iff.mp hi
      rw [List.getElem_range] at ei
      subst ei
      rw [trL_some hd] at hj
      exact wpAny_truthy_bool hj
    · have apart : ∀ b u, s1.heap.get? b = some u → b ∉ h3.objs.size :: [s1.heap.objs.size] := fun b u e hb => by
        have lb : (b : Nat) < s1.heap.objs.size := Heap.lt_size e
        simp only [List.mem_cons, List.not_mem_nil, or_false] at hb
        rcases hb with e' | e' <;> rw [e'] at lb
        · exact Nat.lt_irrefl _ (Nat.lt_trans lb room3)
        · exact Nat.lt_irrefl _ lb
      have fin := inv_tab (more := more) (h' := z.heap) (g' := z.gens) (d' := z.drawn) (t' := z.toks) I1 tP (fun b u nb e => mv.heap b u (apart b u e) (keep5 b u (stays b u nb e))) (mv.heap P _ (apart P _ gP) (keep5 P _ gP3)) (AllBare.movedS (I1.bare.push bare) mv)
      rw [sh_eta s1 z mv.os] at fin
      exact ⟨upd H1 P (.tbl (tab ++ more)), ⟨⟨tab ++ more, upd_same, tr3⟩, fun b hb => upd_ne hb⟩, fin⟩

/-- all(test for x in e), e a list or a tuple; behind it the def's table may have grown -/
def tAllD (K : PySem.W.Frag) (P : Addr) (ok : V → Prop) (pb : V → Bool) (te : TE) : TE := fun σ H Q => te σ H fun v H1 => ∃ (a : Addr) (xs : List V), v = .ref a ∧ SeqLT K H1 a xs ∧ (∀ v ∈ xs, ok v) ∧ TabG H1 P ∧ ∀ H2, Tabbed P H1 H2 → Q (.bl (xs.all pb)) H2
theorem pe_allD {c P : Addr} {elt iter : Expr} {x : Str} {px p pos gpos : Pos} {scope : Scope} {ok : V → Prop} {pb : V → Bool} {te : TE} {k : Nat}
    (hr : Room k X.A) (hg : Gl X "all") (hm : X.mg "all" = none) (hb : bootBuiltins "all" = some (.builtin "all")) (TB : GxR.TabB X.base X.mg c P) (hcode : X.env.code = .ref c) (S : GenS X.env scope x) (hi : PE X iter te) (hel : EltD X scope x elt ok pb)
    (hs : ∀ v, genFold iter X.env v = pure v)
    (he : starEach [.GeneratorExp elt [⟨.Name x px, iter, [], 0⟩] scope gpos] X.env = (false, eval (.GeneratorExp elt [⟨.Name x px, iter, [], 0⟩] scope gpos) X.env) :: starEach [] X.env := by rfl) :
    PE X (.Call (.Name "all" p) [.GeneratorExp elt [⟨.Name x px, iter, [], 0⟩] scope gpos] [] pos) (tAllD X.K P ok pb te) := by
  refine ⟨fun pins s σ H Q I h => ?_⟩
  refine wpAny_Call_Name_kw (ld_blt I hg hm hb ?_)
  refine PyProof.Rows.callWith_builtin1 ?_ he (by rfl)
  rw [he]
  show wpAny _ _ (spliced ((false, eval (.GeneratorExp elt [⟨.Name x px, iter, [], 0⟩] scope gpos) X.env) :: backTo pos (starEach [] X.env))) _ _ s
  refine Calls.spliced_cons (gen_seq (R := fun xs H1 => ∀ H2, Tabbed P H1 H2 → Q (.bl (xs.all pb)) H2) hr TB hcode S hi hel hs I h fun xs H1 g s5 hR hG => ?_)
  obtain ⟨fp, wr, G, F, St, W, hst, htr, hI⟩ := hG
  refine Calls.spliced_nil ?_
  refine call_all_walkS (W.self 0 _ _ _ hst ⟨g, fp, wr, G, _, F, St, _, rfl, W, hst, htr, fun s' hmv => ?_⟩)
  obtain ⟨H2, hT, J⟩ := hI s' hmv
  refine ⟨.bl _, H2, J, rfl, ?_⟩
  rw [all_trL pb xs]
  exact hR H2 hT
end
end Lb

set_option Elab.async false
set_option linter.all false
set_option maxRecDepth 100000
set_option maxHeartbeats 2000000
namespace Lb
open PySem PySem.Spec PyProof.Rows L2

section
variable {X : Cx}

/-! repr of data, where no repr is under way -/
def rReprD (K : PySem.W.Frag) (n : Nat) : List V → Hp → VK → Prop := fun xs H Q => ∃ (a : Addr) (d : PyData), xs = [.ref a] ∧ Dp K H (.ref a) d ∧ d.showable = true ∧ d.hasDict = false ∧ d.depth ≤ n ∧ d.shown.length ≤ sizeLine ∧ Q (.str d.shown) H
theorem cr_reprD {n : Nat} (hg : X.A.guards = some []) (hu : X.A.units + (n + 1) < cLine) : CallR X (.builtin "repr") (rReprD X.K n) := by
  intro pins s σ H xs us Q I r h
  obtain ⟨a, d, rfl, dp, hs, hd, hn, hz, q⟩ := h
  rw [Vals.ref1 r]
  obtain ⟨as, rd⟩ := Dp.reads I d (.ref a) (.ref a) dp rfl
  refine repr_of_reads' rd hs (fun e => ?_) hg (by omega) (fun _ _ e => e) (fun h' u tk hk => ?_) hz
  · rw [hd] at e
    cases e
  · exact ⟨.str d.shown, H, I.kept hk, ⟨u, rfl⟩, q⟩

/-! sorted of ints in a list or a tuple -/
theorem collect_tup {P : Program} {w : World} {A : Around} {E : Value → Shared → Prop} {s : Shared} {t : Addr} {vs : List Value} {Q : List Value → Shared → Prop} (ht : s.heap.IsTuple t vs.toArray) (hz : vs.length ≤ sizeLine)
    (h : Q vs { s with heap := (s.heap.push (seqObj "list" #[] 0)).update s.heap.objs.size (Obj.mapSeq (· ++ vs.toArray)) }) :
    wpAny (model P w) A (collect (.ref t)) Q E s := by
  obtain ⟨o, ho, hc, n, hd⟩ := id ht
  have hnew : (s.heap.push (seqObj "list" #[] 0)).get? s.heap.objs.size = some (seqObj "list" #[] 0) := Heap.get?_push_size _ rfl
  have hold : (s.heap.push (seqObj "list" #[] 0)).get? t = some o := Heap.get?_push_of_some _ ho
  unfold collect
  refine wpAny_bind (wpAny_runValue (codeAny_builtin entry_proto_collect' ?_))
  refine wpAny_bind (m := newList []) (wpAny_newList (wpAny_pure ⟨Code.quiet_builtin _ (by decide +kernel), codeAny_builtin entry_list_iadd' ?_⟩))
  show wpAny _ _ (Builtin.List.listExtendWith (.ref s.heap.objs.size) (.ref t) (.ref s.heap.objs.size)) _ _ ⟨s.heap.push (seqObj "list" #[] 0), _, _, _, _⟩
  unfold Builtin.List.listExtendWith
  refine wpAny_bind (wpAny_typeOf (T := "tuple") ⟨o, hold, hc⟩ ?_)
  have e2 : (Value.type "tuple" == Value.type "tuple") = true := rfl
  rw [if_pos (by rw [e2, Bool.or_true])]
  refine wpAny_bind (listItems_at hold hd (wpAny_bind (listItems_at (xs := #[]) (n := 0) hnew rfl ?_)))
  rw [if_neg (by simp)]
  refine wpAny_bind (listUpdate_at (xs := #[]) (n := 0) hnew rfl (wpAny_pure ?_) (Nat.zero_le _) (by show (#[] ++ vs.toArray).size ≤ sizeLine + 1; simp only [Array.size_append, List.size_toArray, List.length_nil]; omega))
  refine wpAny_bind (m := load s.heap.objs.size) (wpAny_load (get?_update_seq hnew _) ?_)
  have e3 : ((#[] : Array Value) ++ vs.toArray).toList = vs := by simp
  show wpAny _ _ (pure ((#[] : Array Value) ++ vs.toArray).toList) Q E _
  rw [e3]
  exact wpAny_pure h

theorem sorted_tupI {P : Program} {w : World} {A : Around} {E : Value → Shared → Prop} {s : Shared} {t : Addr} {vs : List Value} {ns : List Int} {Q : Value → Shared → Prop} (ht : s.heap.IsTuple t vs.toArray) (hI : IntsAre vs ns) (h64 : vs.length < 64)
    (h : ∀ (out : Array Value) (ns' : List Int), IntsAre out.toList ns' → ns'.Perm ns → ns'.Pairwise (· ≤ ·) → Q (.ref (s.heap.objs.size + 1)) { s with heap := sortedAll s.heap vs out }) :
    wpAny (model P w) A (call (.builtin "sorted") [.ref t]) Q E s := by
  refine Calls.call_function_entry kind_sorted plain_sorted entry_sorted (args_sorted1 _) ?_
  unfold Builtin.«sorted»
  refine wpAny_bind (m := checkCount "sorted" 1 1 _) (wpAny_pure (wpAny_bind (collect_tup ht (small64 h64) (wpAny_bind (wpAny_newList ?_)))))
  have z1 : ((s.heap.push (seqObj "list" #[] 0)).update s.heap.objs.size (Obj.mapSeq (· ++ vs.toArray))).objs.size = s.heap.objs.size + 1 := by rw [Heap.size_update, size_push']
  have z2 : (((s.heap.push (seqObj "list" #[] 0)).update s.heap.objs.size (Obj.mapSeq (· ++ vs.toArray))).push (seqObj "list" vs.toArray 0)).get? (s.heap.objs.size + 1) = some (seqObj "list" vs.toArray 0) := by
    rw [← z1]
    exact Heap.get?_push_size _ rfl
  show wpAny _ _ _ _ _ ⟨((s.heap.push (seqObj "list" #[] 0)).update s.heap.objs.size (Obj.mapSeq (· ++ vs.toArray))).push (seqObj "list" vs.toArray 0), _, _, _, _⟩
  rw [z1]
  exact wpAny_bind (wpAny_holding (wpAny_call_entry slot_list_sort ⟨_, z2, rfl⟩ entry_list_sort (list_sort_tree z2 hI h64 fun out ns' a1 a2 a3 => ⟨_, rfl, wpAny_pure ⟨_, rfl, h out ns' a1 a2 a3⟩⟩) (args_list_sort _)))

def rSortLT (K : PySem.W.Frag) : List V → Hp → VK → Prop := fun vs H Q => ∃ (a : Addr) (ns : List Int), vs = [V.ref a] ∧ SeqLT K H a (ns.map V.int) ∧ ns.length < 64 ∧
  ∀ (ns' : List Int) (p : Addr), ns'.Perm ns → ns'.Pairwise (· ≤ ·) → H p = none → Q (.ref p) (upd H p (.lst (ns'.map V.int)))
theorem cr_sortLT : CallR X (.builtin "sorted") (rSortLT X.K) := by
  intro pins s σ H vs us Q I r h
  obtain ⟨a, ns, rfl, hs, h64, q⟩ := h
  rcases hs with hs | hs
  · exact cr_sorted pins s σ H _ us Q I r ⟨a, ns, rfl, hs, h64, q⟩
  · obtain ⟨its, rv, pl, _⟩ := I.tuple hs
    rw [Vals.ref1 r]
    have hi := rv.ints
    refine sorted_tupI (show s.heap.IsTuple a its.toArray from pl) hi (by rw [hi.length]; exact h64) fun out ns' h1 h2 h3 => ?_
    obtain ⟨ep, he⟩ := sortedAll_at s.heap its out
    have hl : (ns'.map V.int).length ≤ sizeLine := by
      rw [List.length_map, h2.length_eq]
      exact small64 h64
    exact ⟨.ref _, upd H (s.heap.objs.size + 1) (.lst (ns'.map V.int)), I.laid (t' := s.toks) (fun _ _ => sortedAll_old) (Nat.le_succ _) ⟨hl, out.toList, ep, vals_of_ints h1, he⟩, rfl, q ns' _ h2 h3 (I.hok.fresh (Nat.le_succ _))⟩

/-- an order as a value: a list (false), or a tuple (true) that is known to have no dict of its own -/
def OrdK : Bool → Hp → Addr → List V → Prop
  | false, H, a, xs => H a = some (.lst xs)
  | true, H, a, xs => ∃ o : Obj, o.dict = none ∧ H a = some (.frz o (.tup xs))
theorem OrdK.lt {K : PySem.W.Frag} {b : Bool} {H : Hp} {a : Addr} {xs : List V} (h : OrdK b H a xs) : SeqLT K H a xs := by
  cases b with
  | false => exact .inl (.inl (.inl h))
  | true =>
    obtain ⟨o, _, h⟩ := h
    exact .inr (.inl (.inr ⟨o, h⟩))
theorem OrdK.sqT {K : PySem.W.Frag} {H : Hp} {a : Addr} {xs : List V} (h : OrdK true H a xs) : SqT K H a xs := by
  obtain ⟨o, _, h⟩ := h
  exact .inl (.inr ⟨o, h⟩)
theorem OrdK.sqL {K : PySem.W.Frag} {H : Hp} {a : Addr} {xs : List V} (h : OrdK false H a xs) : SqL K H a xs := .inl (.inl h)

/-! seq.index(k), seq a list or a tuple of ints that has k -/
theorem idx_run {pins : List (Addr × Obj)} {s : Shared} {σ : L2.St} {H : Hp} {a : Addr} {us : List Value} {ns : List Int} {k : Int} {Q : VK} (I : L2.Inv X pins σ H s) (ru : Vals [V.int k] us) (hk : k ∈ ns) (q : Q (.int ((ns.idxOf k : Nat) : Int)) H) :
    (SqL X.K H a (ns.map V.int) → wpAny (model X.prog X.w) X.A (call (.builtin "list.index") (.ref a :: us)) (EP X pins σ Q) X.xe s) ∧
    (SqT X.K H a (ns.map V.int) → wpAny (model X.prog X.w) X.A (call (.builtin "tuple.index") (.ref a :: us)) (EP X pins σ Q) X.xe s) := by
  obtain ⟨u, rfl, t, rfl⟩ := vals1 ru
  refine ⟨fun hl => ?_, fun ht => ?_⟩
  · obtain ⟨its, rv, pl, hz⟩ := I.list hl
    rw [List.length_map] at hz
    exact PySem.SeqAt.list_index_ints pl.isList rv.ints hz hk ⟨.int _, H, I.tok _, ⟨_, rfl⟩, q⟩
  · obtain ⟨its, rv, pl, hz⟩ := I.tuple ht
    exact PySem.SeqAt.tuple_index_ints (show s.heap.IsTuple a its.toArray from pl) rv.ints hk ⟨.int _, H, I.tok _, ⟨_, rfl⟩, q⟩
def tIdx (to : TE) (ta : TA) : TE := fun σ H Q => to σ H fun x H1 => ∃ (b : Bool) (a : Addr) (ns : List Int), x = .ref a ∧ OrdK b H1 a (ns.map V.int) ∧ ta σ H1 fun vs H2 => ∃ k : Int, vs = [.int k] ∧ OrdK b H2 a (ns.map V.int) ∧ k ∈ ns ∧ Q (.int ((ns.idxOf k : Nat) : Int)) H2
theorem pe_idx {o e : Expr} {to : TE} {ta : TA} {apos cpos : Pos} (ho : PE X o to) (ha : PA X [e] ta)
    (hbase : attributeBase o "index" X.env (eval o X.env) = eval o X.env := by rfl)
    (hfew : ((backTo cpos (starEach [e] X.env)).all (fun x => !x.1) && (backToKw cpos (keywordEach [] X.env)).all (fun x => x.1.isSome) && decide ([e].length + ([] : List Keyword).length + (if ([] : List Keyword).isEmpty then 0 else 1) < 30)) = true := by rfl)
    (hline : (apos.endLine == cpos.line) = true := by rfl) (hs : starEach [e] X.env = (false, eval e X.env) :: starEach [] X.env := by rfl) :
    PE X (.Call (.Attribute o "index" apos) [e] [] cpos) (tIdx to ta) := by
  refine ⟨fun pins s σ H Q I h => ?_⟩
  refine wpAny_Call_method_late hbase hfew hline rfl (thn (ho.run pins s σ H _ I h) fun v s1 ⟨x, H1, I1, r1, q0⟩ => ?_)
  obtain ⟨b, a, ns, ex, oa, q1⟩ := q0
  subst ex
  cases r1
  have arg := ha.run cpos pins s1 σ H1 _ I1 q1
  rw [hs] at arg ⊢
  cases b with
  | false =>
    obtain ⟨hz, its, n, rv, hob⟩ := I1.hok a _ oa
    refine ⟨"list", "list.index", PySem.F.plainAttrs_list, PySem.F.slot_list_index, PySem.F.type_list_index, ⟨_, hob, rfl⟩, fun b eb => ?_, ?_⟩
    · cases eb
      exact ⟨_, hob, rfl⟩
    · refine Calls.callWith_builtin (by rfl) (Calls.evalArgs_plain (thn arg fun us s2 ⟨vs, H2, I2, r2, k, ev, oa2, hk, q2⟩ => ?_))
      subst ev
      exact (idx_run I2 r2 hk q2).1 oa2.sqL
  | true =>
    obtain ⟨ob, hd, oa⟩ := oa
    obtain ⟨hob, _⟩ := I1.hok a _ oa
    obtain ⟨_, its, _, o3, e3, c3, _⟩ := (show ObjOk X.prog X.w H1 s1.heap a (.frz ob (.tup (ns.map V.int))) from I1.hok a _ oa).2
    rw [hob] at e3
    cases e3
    refine ⟨"tuple", "tuple.index", PySem.F.plainAttrs_tuple, PySem.F.slot_tuple_index, PySem.F.type_tuple_index, ⟨_, hob, c3⟩, fun b eb => ?_, ?_⟩
    · cases eb
      exact ⟨_, hob, hd⟩
    · refine Calls.callWith_builtin (by rfl) (Calls.evalArgs_plain (thn arg fun us s2 ⟨vs, H2, I2, r2, k, ev, oa2, hk, q2⟩ => ?_))
      subst ev
      exact (idx_run I2 r2 hk q2).2 oa2.sqT

/-! seq[::-1], seq a list or a tuple: a new one of the same kind -/
theorem applied_back {P : Program} {w : World} {A : Around} {E : Value → Shared → Prop} {s : Shared} {sl : Addr} {u : Tok} {n : Nat} {Q : Int × Int × Nat → Shared → Prop} (hs : s.heap.IsSliceOf sl .none .none (.int (-1) u)) (h : Q ((n : Int) - 1, -1, n) s) :
    wpAny (model P w) A (Builtin.Slice.sliceApplied (.ref sl) (pure (n : Int))) Q E s := by
  obtain ⟨os, hos, _, hds⟩ := id hs
  unfold Builtin.Slice.sliceApplied Builtin.Slice.sliceFields
  refine wpAny_bind (wpAny_bind (wpAny_field hos hds (x := .none) rfl (wpAny_bind (wpAny_field hos hds (x := .none) rfl (wpAny_bind (wpAny_field hos hds (x := .int (-1) u) rfl (wpAny_pure ?_)))))))
  refine wpAny_bind (slicePart_int ?_)
  show wpAny _ _ (if ((-1 : Int) == 0) = true then _ else _) _ _ s
  rw [if_neg (by decide)]
  refine wpAny_bind (slicePart_none (wpAny_bind (slicePart_none (wpAny_bind (wpAny_pure (wpAny_pure ?_))))))
  have e : Builtin.Slice.slicePlaces ((n : Int) - 1) (-1) (-1) = n := by
    unfold Builtin.Slice.slicePlaces
    rw [if_neg (by decide)]
    by_cases hn : (n : Int) - 1 > -1
    · rw [if_pos hn, show (- -1 : Int) = 1 by decide, Int.ediv_one]
      omega
    · rw [if_neg hn]
      omega
  show Q ((n : Int) - 1, -1, Builtin.Slice.slicePlaces ((n : Int) - 1) (-1) (-1)) s
  rw [e]
  exact h
theorem fm_congr {α β : Type} {f g : α → Option β} : ∀ l : List α, (∀ x ∈ l, f x = g x) → l.filterMap f = l.filterMap g
  | [], _ => rfl
  | x :: r, h => by
    rw [List.filterMap_cons, List.filterMap_cons, h x (.head _), fm_congr r fun y hy => h y (.tail _ hy)]
theorem pick_back (xs : Array Value) : ((List.range xs.size).filterMap fun (k : Nat) => xs[((xs.size : Int) - 1 + (k : Int) * (-1)).toNat]?).toArray = xs.toList.reverse.toArray := by
  have e : ((List.range xs.size).filterMap fun (k : Nat) => xs[((xs.size : Int) - 1 + (k : Int) * (-1)).toNat]?) = ((List.range xs.size).map fun k => xs.size - 1 - k).filterMap (xs[·]?) := by
    rw [List.filterMap_map]
    refine fm_congr _ fun k hk => ?_
    have hk2 := List.mem_range.mp hk
    have e1 : ((xs.size : Int) - 1 + (k : Int) * (-1)).toNat = xs.size - 1 - k := by omega
    rw [e1]
    rfl
  rw [e, PySem.W.krv_range, List.filterMap_reverse, PySem.W.krv_all]
theorem getItem_tuple_back {P : Program} {w : World} {A : Around} {E : Value → Shared → Prop} {s : Shared} {t sl : Addr} {xs : List Value} {u : Tok} {Q : Value → Shared → Prop} (ht : IsTup s.heap t xs.toArray) (hs : s.heap.IsSliceOf sl .none .none (.int (-1) u)) (hz : xs.length ≤ sizeLine)
    (h : Q (.ref s.heap.objs.size) { s with heap := s.heap.push { cls := .type "tuple", data := .seq xs.reverse.toArray } }) : wpAny (model P w) A (getItem (.ref t) (.ref sl)) Q E s := by
  have zOk : sizeOk (.seq xs.reverse.toArray) := by
    show xs.reverse.toArray.size ≤ sizeLine
    rw [List.size_toArray, List.length_reverse]
    exact hz
  obtain ⟨os, hos, hcs, _⟩ := id hs
  unfold getItem
  try with_reducible refine wpAny_holding ?_
  first | refine wpAny_bind (wpAny_pure ?_) | skip
  refine wpAny_bind (wpAny_sequenceKey ht.typeIs (by decide) ?_)
  refine wpAny_bind (wpAny_callSpecial?_slot (name := Str.ofString "__getitem__") ht.typeIs slot_tuple_getitem (wpAny_call_entry slot_tuple_getitem ht.typeIs entry_tuple_getitem ?_ (args_tuple_getitem _ _)))
  refine wpAny_bind (m := Builtin.Tuple.tupleItemsOf (.ref t)) (tupleItemsOf_ ht (wpAny_bind (wpAny_typeOf (show s.TypeIs (.ref sl) "slice" from ⟨os, hos, hcs⟩) ?_)))
  rw [if_pos (by decide)]
  refine wpAny_bind (applied_back hs ?_)
  have off : ¬ ((((xs.toArray.size : Int) - 1) == 0 && (-1 : Int) == 1 && xs.toArray.size == xs.toArray.size) = true) := by
    rw [show ((-1 : Int) == 1) = false by decide, Bool.and_false, Bool.false_and]
    exact Bool.false_ne_true
  show wpAny _ _ (if (((xs.toArray.size : Int) - 1) == 0 && (-1 : Int) == 1 && xs.toArray.size == xs.toArray.size) = true then _ else _) _ _ s
  rw [if_neg off, pick_back]
  exact wpAny_bind (m := Builtin.Tuple.tupleExact _) (wpAny_newObj_type (wpAny_pure ⟨_, rfl, wpAny_pure h⟩) zOk)
def tRev (te : TE) : TE := fun σ H Q => te σ H fun x H1 => ∃ (b : Bool) (a : Addr) (xs : List V), x = .ref a ∧ OrdK b H1 a xs ∧ ∀ p, H1 p = none → Q (.ref p) (upd H1 p (if b = true then .tup xs.reverse else .lst xs.reverse))
theorem pe_rev {e : Expr} {te : TE} {k : Nat} {p1 p2 p3 pos : Pos} (he : PE X e te) : PE X (.Subscript e (.Slice none none (some (.UnaryOp .USub (.Constant (.int 1) k p1) p2)) p3) pos) (tRev te) := by
  refine ⟨fun pins s σ H Q I h => ?_⟩
  refine Subscript_ (thn (he.run pins s σ H _ I h) fun v s1 ⟨x, H1, I1, r1, q0⟩ => ?_)
  obtain ⟨b, a, xs, ex, oa, q⟩ := q0
  subst ex
  cases r1
  have step : PO X (some (.UnaryOp .USub (.Constant (.int 1) k p1) p2)) (tPart (tUn (rU fun i => .int (-i)) (tC (.int 1)))) := po_some (pe_un un_neg pe_int)
  refine wpAny_Slice (thn (po_none.run pins s1 σ H1 (fun o H2 => o = none ∧ H2 = H1) I1 ⟨rfl, rfl⟩) fun vl s2 ⟨l, H2, I2, pl, el, e2⟩ => ?_)
  subst el e2
  refine thn (po_none.run pins s2 σ H2 (fun o H3 => o = none ∧ H3 = H2) I2 ⟨rfl, rfl⟩) fun vu s3 ⟨u, H3, I3, pu, eu, e3⟩ => ?_
  subst eu e3
  refine thn (step.run pins s3 σ H3 (fun o H4 => o = some (-1) ∧ H4 = H3) I3 ⟨1, rfl, -1, rfl, rfl, rfl⟩) fun vs s4 ⟨o, H4, I4, ps, eo, e4⟩ => ?_
  subst eo e4
  cases pl
  cases pu
  cases ps with
  | int _ tk =>
    have I5 : L2.Inv X pins σ H4 { s4 with heap := s4.heap.push { cls := .type "slice", data := .fields #[.none, .none, .int (-1) tk] } } := I4.kept (t' := s4.toks) fun b ob q => Heap.get?_push_of_some _ q
    cases b with
    | false =>
      obtain ⟨its, r, ht, hz⟩ := I5.list oa.sqL
      refine tail_any (ops := [.ref a, .ref s4.heap.objs.size]) ht.isList.typeIs (PySem.slot_list_getitem.lookup) ?_ (by with_unfolding_all rfl)
      refine wpAny_getItem_list_slice ht.isList (Heap.IsSliceOf.new _ _ _ _) .none .none (.int _ _) (by decide) ?_ (by rw [List.size_toArray, ← r.length]; exact hz)
      rw [PySem.W.krv_pick]
      refine ⟨.ref _, _, I5.laid (t' := s4.toks) (o := .lst xs.reverse) (fun b ob q => Heap.get?_push_of_some _ q) (Nat.le_refl _) ?_, rfl, q _ (I5.hok.fresh (Nat.le_refl _))⟩
      exact ⟨by rw [List.length_reverse]; exact hz, _, 0, r.reverse, Heap.get?_push_size _ rfl⟩
    | true =>
      obtain ⟨its, r, ht, hz⟩ := I5.tuple oa.sqT
      refine tail_any (ops := [.ref a, .ref s4.heap.objs.size]) (show IsTup _ a its.toArray from ht).typeIs (slot_tuple_getitem.lookup) ?_ (by with_unfolding_all rfl)
      refine getItem_tuple_back ht (Heap.IsSliceOf.new _ _ _ _) (by rw [← r.length]; exact hz) ?_
      refine ⟨.ref _, _, I5.laid (t' := s4.toks) (o := .tup xs.reverse) (fun b ob q => Heap.get?_push_of_some _ q) (Nat.le_refl _) ?_, rfl, q _ (I5.hok.fresh (Nat.le_refl _))⟩
      exact ⟨by rw [List.length_reverse]; exact hz, _, r.reverse, IsTup.new _ _⟩

/-! tuple(list), tuple(range): new tuples of which the object is told -/
/-- the object is known and has no dict of its own -/
theorem inv_frz {pins : List (Addr × Obj)} {σ : L2.St} {H : Hp} {s : Shared} {h' : Heap} {xs : List V} {its : List Value} (I : L2.Inv X pins σ H s) (hk : ∀ b o, s.heap.get? b = some o → h'.get? b = some o) (hz : xs.length ≤ sizeLine) (rv : Vals xs its) (tk : Nat) :
    L2.Inv X pins σ (upd H h'.objs.size (.frz { cls := .type "tuple", data := .seq its.toArray } (.tup xs))) { s with heap := h'.push { cls := .type "tuple", data := .seq its.toArray }, toks := tk } := by
  have I1 : L2.Inv X pins σ H { s with heap := h', toks := tk } := I.kept hk
  refine I1.laid (t' := tk) (fun b o e => Heap.get?_push_of_some _ e) (Nat.le_refl _) ?_
  exact ⟨Heap.get?_push_size _ rfl, hz, its, rv, IsTup.new _ _⟩
def kTupF (x : V) (H : Hp) (Q : VK) : Prop := ∃ (b : Bool) (p : Addr) (xs : List V), x = .ref p ∧ OrdK b H p xs ∧ (b = true → Q (.ref p) H) ∧ (b = false → ∀ (q : Addr) (o : Obj), o.dict = none → H q = none → Q (.ref q) (upd H q (.frz o (.tup xs))))
theorem pe_tupF {a : Expr} {ta : TE} {p pos : Pos} (hg : Gl X "tuple") (hm : X.mg "tuple" = none) (ha : PE X a ta) (na : starEach [a] X.env = (false, eval a X.env) :: starEach [] X.env := by rfl) :
    PE X (.Call (.Name "tuple" p) [a] [] pos) (tThen ta kTupF) := by
  refine ⟨fun pins s σ H Q I h => ?_⟩
  refine Call_ (ld_blt I hg hm boot_tuple (PyProof.Rows.callWith_type1 (one_arg ha I h (fun v s2 x H2 I2 r q => ?_) na) na))
  obtain ⟨b, t, xs, rfl, oa, q1, q2⟩ := q
  obtain rfl : v = .ref t := r
  cases b with
  | true =>
    obtain ⟨its, rv, pl, hz⟩ := I2.tuple oa.sqT
    exact call_tuple_tup pl ⟨.ref t, H2, I2, rfl, q1 rfl⟩
  | false =>
    obtain ⟨its, rv, pl, hz⟩ := I2.list oa.sqL
    refine call_tuple_list pl.isList (fun h' hk => ?_) (by rw [List.size_toArray, ← rv.length]; exact hz)
    have I1 : L2.Inv X pins σ H2 { s2 with heap := h' } := I2.kept (t' := s2.toks) hk
    exact ⟨.ref h'.objs.size, _, inv_frz I2 hk hz rv s2.toks, rfl, q2 rfl _ _ rfl (I1.hok.fresh (Nat.le_refl _))⟩
def tTupRF (te : L2.St → Hp → (Int → Int → Hp → Prop) → Prop) : TE := fun σ H Q => te σ H fun a b H1 => RgOk a b ∧ ∀ (q : Addr) (o : Obj), o.dict = none → H1 q = none → Q (.ref q) (upd H1 q (.frz o (.tup (rgV a b))))
theorem pe_tupRF {e : Expr} {te : L2.St → Hp → (Int → Int → Hp → Prop) → Prop} {p pos : Pos} (hc : X.calm = true) (hg : Gl X "tuple") (hm : X.mg "tuple" = none) (he : PRg X e te) (na : starEach [e] X.env = (false, eval e X.env) :: starEach [] X.env := by rfl) : PE X (.Call (.Name "tuple" p) [e] [] pos) (tTupRF te) := by
  refine ⟨fun pins s σ H Q I h => ?_⟩
  refine Call_ (ld_blt I hg hm boot_tuple (PyProof.Rows.callWith_type1 (args_cons (thn (he pins s σ H _ I h) fun x s1 ⟨r, a, b, t, u, v, H1, ex, hr, I1, ok, q⟩ => args_nil ?_) na) na))
  subst ex
  obtain ⟨b1, b2, b3, b4, b5⟩ := ok
  refine call_tuple_range (n := (b - a).toNat) (I1.ok.hd hc) hr (small_one b1 b2 b3 b4) (rangeSize_nat a b) b5 fun h' tk acc hk hi => ?_
  have I2 : L2.Inv X pins σ H1 { s1 with heap := h', toks := tk } := I1.kept hk
  have z := inv_frz (xs := rgV a b) (its := acc.toList) I1 hk (by rw [rgV_length, sizeLine_eq]; omega) (vals_rg hi) tk
  rw [Array.toArray_toList] at z
  exact ⟨.ref h'.objs.size, _, z, rfl, q _ _ rfl (I2.hok.fresh (Nat.le_refl _))⟩
end
end Lb

set_option Elab.async false
set_option linter.all false
set_option maxRecDepth 100000
set_option maxHeartbeats 2000000
namespace Lb
open PySem PySem.Spec PyProof.Rows L2

/-! ### promises that are kept where no repr is under way -/
structure FnG (P : Program) (w : World) (K : PySem.W.Frag) (mg : Str → Option Value) (base : Heap) (k : Nat) (f : Addr) (fd : FuncData) (ps : List Str) (sp : Sp) : Prop where
  len : ∀ vs H Q E, sp vs H Q E → vs.length = ps.length
  run : ∀ (A : Around) (outer : List Env) (s : Shared) (H : Hp) (args : Args) (us : List Value) (vs : List V) (Q : VK) (E : XK), A.guards = some [] → Room k A → Env0 P w K mg base A outer s H → BindsTo s fd args (ps.zip us) → Vals vs us → sp vs H Q E →
    codeAny (model P w) A (.call (.ref f) args) (CR CX0 outer P w H s Q E) s

section
variable {P : Program} {w : World} {K : PySem.W.Frag} {mg : Str → Option Value} {base : Heap}
theorem okG {x qual : Str} {st : Stmt} {f : Addr} {fd : FuncData} {N ps : List Str} {k : Nat} {sp : Sp} (F : Fun K x qual st f fd) (S : FnScope N ps (defScope st)) (len : ∀ vs H Q E, sp vs H Q E → vs.length = ps.length)
    (body : ∀ (cdv : Value) (A : Around) (outer : List Env) (s : Shared) (H : Hp) (vs : List V) (Q : VK) (E : XK), A.guards = some [] → Room k (A.deeper (envOfC qual (defScope st) s.heap.objs.size f cdv)) → sp vs H Q E →
      ∃ t, PSs (cxOf CX0 P w K mg base N qual (defScope st) f cdv A outer s H E).nox (defBody st) t ∧ t { nx := fun _ H' => Q .non H', rt := Q } (start N vs) H) : FnG P w K mg base (k + 1) f fd ps sp := by
  obtain ⟨oc, od, kV, doc, pm, an, cdv, ct, osl, rfl, lk, hcd⟩ := F.ex
  refine ⟨len, fun A outer s H args us vs Q E hg hr e0 hb r hsp => ?_⟩
  have lenV := len _ _ _ _ hsp
  have old : ∀ b o, base.get? b = some o → s.heap.get? b = some o := fun b o e => (e0.bs b o e).1
  have kIn := e0.mod.kin.keeps old
  have params : ∀ y ∈ ps.zip us, (defScope st).names.lookup y.1 = some .local ∨ ((defScope st).names.lookup y.1 = some .cell ∧ ((cellsFrom (s.heap.objs.size + 1) (defScope st).names []).lookup y.1).isSome = true) := by
    rintro ⟨n, v⟩ hy
    rcases S.par n (List.of_mem_zip hy).1 with z | z
    · exact .inl z
    · exact .inr ⟨z, PySem.W.cellsFrom_some _ _ _ (.inl z)⟩
  refine codeAny_call_function hr.depth (kIn _ _ lk) rfl S.co S.gen rfl (PySem.W.codeRec_of kIn hcd) (hb _ _ _ _ (wpAny_newFunctionEnv_cells S.kind params fun env he s1 x => ?_))
  subst he
  obtain ⟨t, ht, hq⟩ := body cdv A outer s H vs Q E hg (hr.deeper _) hsp
  refine ⟨(e0.mod.nolimit.keeps old).keeps x.toInCall.keep, codeAny_func (wpAny_mono (ht.nox.run [] s1 (start N vs) H _ (inv_start S hr.hd e0 lenV r x) hq) (fun fl s' hs => ?_) fun _ _ z => z)⟩
  have done : ∀ {σ' : L2.St} {H' : Hp} {v : V} {u : Value}, L2.Inv (cxOf CX0 P w K mg base N qual (defScope st) f cdv A outer s H E) [] σ' H' s' → RelV v u → Q v H' → CE outer P w H s Q u s' := fun J rv q => ⟨_, _, J.os, J.bare, J.base, J.hok, rv, q⟩
  match fl, hs with
  | .ret u, ⟨v, σ', H', J, rv, q⟩ => exact done J rv q
  | .next, ⟨σ', H', J, q⟩ => exact done (v := .non) (u := .none) J rfl q
  | .brk, ⟨_, _, _, q⟩ => exact q.elim
  | .cont, ⟨_, _, _, q⟩ => exact q.elim
end

section
variable {X : Cx} {k : Nat} {f : Addr} {fd : FuncData} {ps ks : List Str} {sp : Sp} {x : Str} {p pos : Pos} {e : Expr} {es : List Expr} {t : TA}
/-- g(e, ..) of such a def -/
theorem pe_callG (F : FnG X.prog X.w X.K X.mg X.base k f fd ps sp) (hu : X.A.guards = some []) (hr : Room k X.A) (hg : Gl X x) (hm : X.mg x = some (.ref f)) (hk : PySem.W.keepIn X.K (.ref f) = true) (hb : Binds X.K fd ps [])
    (ha : PA X (e :: es) t) (hdb : (x == ("__debug__" : Str)) = false := by decide) (he : starEach (e :: es) X.env = (false, eval e X.env) :: starEach es X.env := by rfl) (hpl : (backTo pos (starEach es X.env)).any (·.1) = false := by rfl) :
    PE X (.Call (.Name x p) (e :: es) [] pos) (tCall sp [] E0 t) := by
  refine ⟨fun pins s σ H Q I h => wpAny_Call_Name_kw (ld_glob I hg hm ?_ hdb)⟩
  refine PySem.W.callWith_K (h₀ := X.base) I.ok.mod.kin hk (thn (ha.run pos pins s σ H _ I h) fun us s1 ⟨vs, H1, I1, r, q⟩ => ⟨I1.kIn, ?_⟩) he hpl
  have q' : sp vs H1 Q E0 := by
    have z : sp (vs ++ []) H1 Q E0 := q
    rw [List.append_nil] at z
    exact z
  have hl : (us ++ []).length = ps.length := by
    rw [List.append_nil, ← r.length]
    exact F.len _ _ _ _ q'
  have bd := hb s1 us I1.kIn hl
  rw [List.append_nil] at bd
  refine wpAny_call (codeAny_mono (F.run X.A X.stack s1 H1 ⟨us, []⟩ us vs Q E0 hu hr I1.env0 bd r q') fun z s' hq => ?_)
  match z, hq with
  | .ok (.ret u), hq => exact I1.after hq
/-- g(k = e, ..), keywords alone -/
theorem pe_callKW {CX : CXT} {E : XK} {kws : List Keyword} {tk : TA} {g : List Value → List Value → List Value} {gV : List V → List V → List V} (F : FnOk X.prog X.w X.K X.mg X.base CX k f fd ps sp) (hr : Room k X.A) (hg : Gl X x) (hm : X.mg x = some (.ref f)) (hk : PySem.W.keepIn X.K (.ref f) = true) (hb : KBinds X.K fd ps ks g gV) (hx : Passes CX X E)
    (hkw : PK X kws tk) (hall : (backToKw pos (keywordEach kws X.env)).all (·.1.isSome) = true := by rfl) (hks : (backToKw pos (keywordEach kws X.env)).filterMap (·.1) = ks := by rfl)
    (hdb : (x == ("__debug__" : Str)) = false := by decide) (hpl : ((backTo pos (starEach [] X.env)).any (·.1) || (backToKw pos (keywordEach kws X.env)).any (·.1.isNone)) = false := by rfl) :
    PE X (.Call (.Name x p) [] kws pos) (tCallK sp gV E tNil tk) := by
  refine ⟨fun pins s σ H Q I h => wpAny_Call_Name_kw (ld_glob I hg hm ?_ hdb)⟩
  refine PySem.W.callWith_KW0 (h₀ := X.base) I.ok.mod.kin hk hall (thn (hkw.run pos pins s σ H _ I h) fun ws s2 ⟨zs, H2, I2, rz, q2⟩ => ⟨I2.kIn, ?_⟩) hpl
  rw [hks]
  exact run_fnk F hr hb hx I2 .nil rz q2
end

/-! ### the end of a law that asks for reprs -/
/-- what is tracked at a law's entry: the tables of T, and (if t) the script at a, known as it is -/
def H0 (T : List Addr) (t : Bool) (a : Addr) (o : Obj) (xs : List V) : Hp := fun b => if b ∈ T then some (.tbl #[]) else if t = true ∧ b = a then some (.frz o (.lst xs)) else none
theorem H0_tab {T : List Addr} {t : Bool} {a : Addr} {o : Obj} {xs : List V} {b : Addr} (h : b ∈ T) : H0 T t a o xs b = some (.tbl #[]) := if_pos h
theorem H0_a {T : List Addr} {a : Addr} {o : Obj} {xs : List V} (h : a ∉ T) : H0 T true a o xs a = some (.frz o (.lst xs)) := (if_neg h).trans (if_pos ⟨rfl, rfl⟩)
theorem H0_some {T : List Addr} {t : Bool} {a : Addr} {o : Obj} {xs : List V} {b : Addr} {u : HO} (h : H0 T t a o xs b = some u) : (b ∈ T ∧ u = .tbl #[]) ∨ (t = true ∧ b = a ∧ u = .frz o (.lst xs)) := by
  unfold H0 at h
  by_cases h1 : b ∈ T
  · rw [if_pos h1] at h
    cases h
    exact .inl ⟨h1, rfl⟩
  · rw [if_neg h1] at h
    by_cases h2 : t = true ∧ b = a
    · rw [if_pos h2] at h
      cases h
      exact .inr ⟨h2.1, h2.2, rfl⟩
    · rw [if_neg h2] at h
      cases h

/-- the state at the entry of a law's call -/
structure Entry (P : Program) (w : World) (K : PySem.W.Frag) (mg mb : Str → Option Value) (cs : List (Addr × Addr)) (a : Addr) (vs : List Value) (ns : List Int) (s : Shared) : Prop where
  kin : K.In s.heap
  glob : s.heap.Ns mainGlobals mg
  blt : s.heap.Ns builtinsNs mb
  bltIs : ∀ x : Str, x ≠ "__name__" → mb x = bootBuiltins x
  lim : s.heap.NoLimit
  gens : s.gens = #[]
  tab : ∀ p ∈ cs, s.heap.get? p.2 = some { cls := .none, data := .fields #[] }
  tabK : ∀ p ∈ cs, K.lookup p.2 = none
  hd : ∀ p ∈ cs, PySem.W.CodeHd s.heap p.1 p.2
  bm : ∃ (bm : Addr) (ob : Obj), mg "__builtins__" = some (.ref bm) ∧ bm ≠ builtinsNs ∧ s.heap.get? bm = some ob ∧ ob.cls = .type "module" ∧ ob.dict = some builtinsNs ∧ ob.data = .plain
  scr : s.heap.get? a = some { cls := .type "list", data := .seq vs.toArray }
  isInt : IntsAre vs ns
  len : ns.length ≤ sizeLine

theorem law_callG {P : Program} {w : World} {K : PySem.W.Frag} {mg mb : Str → Option Value} {k : Nat} {fa a : Addr} {cs : List (Addr × Addr)} {fd : FuncData} {x : Str} {sp : Sp} {s₁ : Shared} {vs : List Value} {ns : List Int}
    (En : Entry P w K mg mb cs a vs ns s₁) (hr : Room k callerA)
    (F : ∀ base : Heap, K.In base → base.Ns mainGlobals mg → (∀ p ∈ cs, GxR.TabB base mg p.1 p.2) → FnG P w K mg base k fa fd [x] sp) (hb : ∀ (s : Shared) (u : Value), BindsTo s fd ⟨[u], []⟩ [(x, u)])
    (hsp : ∀ H : Hp, (∀ p ∈ cs, H p.2 = some (.tbl #[])) → SqL K H a (ns.map V.int) → sp [.ref a] H (fun v _ => v = .bl true) fun _ _ _ => False) :
    codeAny (model P w) callerA (.call (.ref fa) ⟨[.ref a], []⟩) (fun r s' => r = .ok (.ret (.bool true)) ∧ OldK s₁.heap s'.heap ∧ s'.os = s₁.os ∧ AllBare s'.gens) s₁ := by
  have rv := vals_ints En.isInt
  let T := cs.map (·.2)
  have tabT : ∀ b ∈ T, s₁.heap.get? b = some { cls := .none, data := .fields #[] } := fun b hbT => by
    obtain ⟨p, hp, e⟩ := List.mem_map.mp hbT
    rw [← e]
    exact En.tab p hp
  have tabN : ∀ b ∈ T, K.lookup b = none := fun b hbT => by
    obtain ⟨p, hp, e⟩ := List.mem_map.mp hbT
    rw [← e]
    exact En.tabK p hp
  have inT : ∀ p ∈ cs, p.2 ∈ T := fun p hp => List.mem_map.mpr ⟨p, hp, rfl⟩
  have aT : a ∉ T := fun z => by
    have q := tabT a z
    rw [En.scr] at q
    cases (congrArg Obj.data (Option.some.inj q) : Data.seq vs.toArray _ = Data.fields #[])
  have lenXs : (ns.map V.int).length ≤ sizeLine := by
    rw [List.length_map]
    exact En.len
  -- by whether the script is an object of the written part
  obtain ⟨t, ht, hS⟩ : ∃ t : Bool, (t = true → K.lookup a = none) ∧ SqL K (H0 T t a { cls := .type "list", data := .seq vs.toArray } (ns.map V.int)) a (ns.map V.int) := by
    cases hk : K.lookup a with
    | none => exact ⟨true, fun _ => rfl, .inl (.inr ⟨_, H0_a aT⟩)⟩
    | some o =>
      have e := En.kin a o hk
      rw [En.scr] at e
      cases e
      exact ⟨false, fun z => (nomatch z), .inr ⟨_, vs.toArray, _, hk, rfl, rfl, rfl, by rw [List.size_toArray, En.isInt.length]; exact En.len, by simpa using rv⟩⟩
  let H : Hp := H0 T t a { cls := .type "list", data := .seq vs.toArray } (ns.map V.int)
  have tabH : ∀ p ∈ cs, H p.2 = some (.tbl #[]) := fun p hp => H0_tab (inT p hp)
  have hok : HOk P w H s₁.heap := fun b u e => by
    rcases H0_some e with ⟨h1, rfl⟩ | ⟨_, rfl, rfl⟩
    · exact tabT b h1
    · exact ⟨En.scr, lenXs, vs, _, rv, En.scr⟩
  -- what is neither a table's nor the script's form is not tracked
  have free : ∀ {b : Addr} {o : Obj}, s₁.heap.get? b = some o → o.data ≠ .fields #[] → (∀ xs n, o.data ≠ .seq xs n) → H b = none := fun {b o} e h1 h2 => by
    cases q : H b with
    | none => rfl
    | some u =>
      rcases H0_some q with ⟨z, _⟩ | ⟨_, rfl, _⟩
      · rw [tabT b z] at e
        cases e
        exact absurd rfl h1
      · rw [En.scr] at e
        cases e
        exact absurd rfl (h2 _ _)
  have freeNs : ∀ {b : Addr} {m : Str → Option Value}, s₁.heap.Ns b m → (hidT s₁.heap H).Ns b m := fun {b m} ⟨o, es, ep, e, d, r⟩ => by
    refine ⟨o, es, ep, hidT_get e (free e (fun z => ?_) fun xs n z => ?_), d, r⟩ <;> (rw [d] at z; cases z)
  have kinB : K.In (hidT s₁.heap H) := fun b o e => hidT_get (En.kin b o e) (by
    cases q : H b with
    | none => rfl
    | some u =>
      rcases H0_some q with ⟨z, _⟩ | ⟨z, rfl, _⟩
      · rw [tabN b z] at e
        cases e
      · rw [ht z] at e
        cases e)
  have md : L2.Mod K mg (hidT s₁.heap H) := ⟨kinB, freeNs En.glob, ⟨mb, freeNs En.blt, En.bltIs⟩, let ⟨mc, h1, h2⟩ := En.lim; ⟨mc, freeNs h1, h2⟩⟩
  have notTab : ∀ {b p : Addr} {m : Str → Option Value}, p ∈ T → s₁.heap.Ns b m → b ≠ p := fun {b p m} hp ⟨o, es, ep, e, d, _⟩ z => by
    rw [z, tabT p hp] at e
    cases e
    cases d
  have tb : ∀ p ∈ cs, GxR.TabB (hidT s₁.heap H) mg p.1 p.2 := fun p hp => by
    obtain ⟨bm, ob, b1, b2, b3, b4, b5, b6⟩ := En.bm
    refine ⟨?_, ⟨bm, ob, b1, b2, fun q => ?_, fun q => ?_, hidT_get b3 (free b3 (fun z => ?_) fun xs n z => ?_), b4, b5, b6⟩, notTab (inT p hp) En.glob⟩
    · obtain ⟨o, us, file, tf, flags, tg, inF, text, tt, e1, r1, r2, r3, rest⟩ := En.hd p hp
      refine ⟨o, us, file, tf, flags, tg, inF, text, tt, hidT_get e1 (free e1 (fun z => ?_) fun xs n z => ?_), r1, r2, r3, rest⟩
      · rw [r2] at z
        cases z
        simp at r3
      · rw [r2] at z
        cases z
    · obtain ⟨o, es, ep, e, d, _⟩ := En.glob
      rw [q, e] at b3
      cases b3
      rw [d] at b6
      cases b6
    · rw [q, En.tab p hp] at b3
      cases b3
      cases b6
    · rw [b6] at z
      cases z
    · rw [b6] at z
      cases z
  have e0 : Env0 P w K mg (hidT s₁.heap H) callerA [] s₁ H := ⟨rfl, md, fun b o e => of_hidT e, Nat.le_of_eq (hidT_size _ _), trivial, fun b z => absurd (show b ∈ ([] : List Addr) from z) List.not_mem_nil, hok, .of_eq En.gens⟩
  refine codeAny_mono ((F _ kinB (freeNs En.glob) tb).run callerA [] s₁ H ⟨[.ref a], []⟩ [.ref a] [.ref a] _ _ rfl hr e0 (hb s₁ (.ref a)) (.cons rfl .nil) (hsp H tabH hS)) fun z s' hq => ?_
  match z, hq with
  | .ok (.ret u), ⟨v, H', os, bare, un, hok', ru, qv⟩ =>
    have qv' : v = .bl true := qv
    subst qv'
    have eu : u = .bool true := ru
    subst eu
    have nofr : ∀ b : Addr, b ∉ frs ([] : List Env) := fun b z => absurd (show b ∈ ([] : List Addr) from z) List.not_mem_nil
    have grown : ∀ p ∈ cs, ∃ more : Array Value, s'.heap.get? p.2 = some { cls := .none, data := .fields more } := fun p hp => by
      obtain ⟨more, e⟩ := un.tbls p.2 #[] (tabH p hp)
      exact ⟨_, hok' p.2 _ e⟩
    have kept : ∀ b o, b ∉ T → s₁.heap.get? b = some o → s'.heap.get? b = some o := fun b o nb e => by
      cases q : H b with
      | none => exact un.keep b o e q (nofr b) List.not_mem_nil
      | some u =>
        rcases H0_some q with ⟨z, _⟩ | ⟨_, rfl, rfl⟩
        · exact absurd z nb
        · rw [En.scr] at e
          cases e
          exact (hok' b _ (un.frzs b _ _ q)).1
    refine ⟨rfl, ⟨fun b o e => ?_, fun b o e => ?_⟩, os, bare⟩
    · by_cases hbT : b ∈ T
      · obtain ⟨p, hp, rfl⟩ := List.mem_map.mp hbT
        obtain ⟨more, hm⟩ := grown p hp
        have e' := En.tab p hp
        rw [e'] at e
        cases e
        exact .inr (.inl ⟨((En.hd p hp).tab e').isCodeTable, rfl, #[], more, rfl, by rw [Array.empty_append]; exact hm⟩)
      · exact .inl (kept b o hbT e)
    · by_cases hbT : b ∈ T
      · obtain ⟨p, hp, rfl⟩ := List.mem_map.mp hbT
        obtain ⟨more, hm⟩ := grown p hp
        exact ⟨_, hm⟩
      · exact ⟨o, kept b o hbT e⟩

/-- what is to be known of a law's def at the head's end; Tb: the tables of the defs of the view -/
def LawG (l : PySem.W.OpenLaw) (w : World) (K : PySem.W.Frag) (k n : Nat) (x : Str) (mg : Str → Option Value) (fa : Addr) (h : Heap) : Prop :=
  ∃ (fd : FuncData) (cs : List (Addr × Addr)) (sp : Sp), (∀ p ∈ cs, h.get? p.2 = some { cls := .none, data := .fields #[] }) ∧ (∀ p ∈ cs, K.lookup p.2 = none) ∧ (∀ p ∈ cs, PySem.W.CodeHd h p.1 p.2) ∧ (∀ (s : Shared) (u : Value), BindsTo s fd ⟨[u], []⟩ [(x, u)]) ∧
    (∀ (H : Hp) (a : Addr) (ns : List Int), ns.length ≤ n → (∀ z ∈ ns, Builtin.Int.intBits z ≤ 1048576) → (∀ p ∈ cs, H p.2 = some (.tbl #[])) → SqL K H a (ns.map V.int) → sp [.ref a] H (fun v _ => v = .bl true) fun _ _ _ => False) ∧
    ∀ base : Heap, K.In base → base.Ns mainGlobals mg → (∀ p ∈ cs, GxR.TabB base mg p.1 p.2) → FnG l.prog w K mg base k fa fd [x] sp
theorem walkG {l : PySem.W.OpenLaw} {n k : Nat} {q : Program} {loose : List Str} {XP : (Str → Option Value) → Heap → Prop} {YP : World → Heap → Prop} {d : DefRec} {K : Params → PySem.W.Frag} {x : Str}
    (hn : l.most = some n) (hn2 : n ≤ sizeLine) (hdf : d.params.defaults = []) (hr : Room k callerA) (hY : ∀ (w : World) (h : Heap), YP w h → (K w.params).In h)
    (F : ∀ (w : World) (mg : Str → Option Value) (fa : Addr) (h : Heap), (K w.params).In h → h.Ns mainGlobals mg → mg d.name = some (.ref fa) →
      (∀ (y : Str) (dr : DefRec) (c P : Addr), (recsOf q).find? (fun e => e.name == y) = some dr → PySem.W.tabIn (K w.params) y = some (c, P) → PySem.W.CodeHd h c P ∧ h.get? P = some { cls := .none, data := .fields #[] }) → LawG l w (K w.params) k n x mg fa h) :
    PySem.W.WalkO q loose XP YP l.row.toRowW d [] (fun f vs => PySem.call f vs) := by
  refine Att.attach_callB hn hdf fun w s₀ s₁ mg mb fa o pm cd doc a vs ns G Y ho hd hcd hmg hobj hints hlen hbits hg => ?_
  have kin := hY w _ Y
  obtain ⟨fd, cs, sp, h1, h2, h3, hb, hsp, hF⟩ := F w mg fa _ kin G.T.g hmg fun y dr c P e1 e2 => PySem.W.tab_of G.T kin e1 e2
  exact law_callG ⟨kin, G.T.g, G.T.b, G.T.builtins, G.T.nolimit, hg, h1, h2, h3, G.T.bmain, hobj, hints, Nat.le_trans hlen hn2⟩ hr hF hb fun H hH hS => hsp H a ns hlen hbits hH hS
end Lb

set_option Elab.async false
set_option linter.all false
set_option maxRecDepth 100000
set_option maxHeartbeats 2000000
namespace Pv
open PySem PySem.Spec PyProof.Rows L2 Lb

/-! ### data; what a def's names hold: data that others may hold too, or a list of one's own (b: made here) -/
abbrev D := PyData
inductive Sl where
  | sh (d : D)
  | ow (b : Bool) (ds : List D)
abbrev Ev := List (Option Sl)

def Sub (g g' : Hp) : Prop := ∀ p u, g p = some u → g' p = some u
theorem Sub.refl {g : Hp} : Sub g g := fun _ _ e => e
theorem Sub.trans {a b c : Hp} (x : Sub a b) (y : Sub b c) : Sub a c := fun p u e => y p u (x p u e)
theorem Sub.new {g : Hp} {p : Addr} {o : HO} (n : g p = none) : Sub g (upd g p o) := fun q u e => by rw [upd_ne (ne_of_none e n)]; exact e
theorem sql_sub {K : PySem.W.Frag} {g g' : Hp} (s : Sub g g') {a : Addr} {xs : List V} (h : SqL K g a xs) : SqL K g' a xs := by
  rcases h with (h | ⟨o, h⟩) | h
  · exact .inl (.inl (s _ _ h))
  · exact .inl (.inr ⟨o, s _ _ h⟩)
  · exact .inr h
theorem sqt_sub {K : PySem.W.Frag} {g g' : Hp} (s : Sub g g') {a : Addr} {xs : List V} (h : SqT K g a xs) : SqT K g' a xs := by
  rcases h with (h | ⟨o, h⟩) | h
  · exact .inl (.inl (s _ _ h))
  · exact .inl (.inr ⟨o, s _ _ h⟩)
  · exact .inr h
mutual
theorem dp_sub {K : PySem.W.Frag} {g g' : Hp} (s : Sub g g') : ∀ {v : V} {d : D}, Dp K g v d → Dp K g' v d
  | _, _, .non => .non
  | _, _, .bl b => .bl b
  | _, _, .int i => .int i
  | _, _, .str x => .str x
  | _, _, .lst h t => .lst (sql_sub s h) (dpa_sub s t)
  | _, _, .tup h t => .tup (sqt_sub s h) (dpa_sub s t)
theorem dpa_sub {K : PySem.W.Frag} {g g' : Hp} (s : Sub g g') : ∀ {vs : List V} {ds : List D}, DpAll K g vs ds → DpAll K g' vs ds
  | _, _, .nil => .nil
  | _, _, .cons h t => .cons (dp_sub s h) (dpa_sub s t)
end
theorem dpa_len {K : PySem.W.Frag} {g : Hp} : ∀ {vs : List V} {ds : List D}, DpAll K g vs ds → vs.length = ds.length
  | _, _, .nil => rfl
  | _, _, .cons _ t => by rw [List.length_cons, List.length_cons, dpa_len t]
theorem dpa_get {K : PySem.W.Frag} {g : Hp} : ∀ {vs : List V} {ds : List D} {i : Nat} {d : D}, DpAll K g vs ds → ds[i]? = some d → ∃ v, vs[i]? = some v ∧ Dp K g v d
  | _, _, _, _, .nil, e => by simp at e
  | _, _, 0, _, .cons h _, e => by
    simp at e
    subst e
    exact ⟨_, rfl, h⟩
  | _, _, i + 1, _, .cons _ t, e => by
    obtain ⟨v, a, b⟩ := dpa_get (i := i) t (by simpa using e)
    exact ⟨v, by simpa using a, b⟩
theorem dpa_app {K : PySem.W.Frag} {g : Hp} : ∀ {vs ws : List V} {ds es : List D}, DpAll K g vs ds → DpAll K g ws es → DpAll K g (vs ++ ws) (ds ++ es)
  | _, _, _, _, .nil, y => y
  | _, _, _, _, .cons h t, y => .cons h (dpa_app t y)
theorem dpa_snoc {K : PySem.W.Frag} {g : Hp} {vs : List V} {ds : List D} {v : V} {d : D} (h : DpAll K g vs ds) (x : Dp K g v d) : DpAll K g (vs ++ [v]) (ds ++ [d]) := dpa_app h (.cons x .nil)
theorem dpa_set {K : PySem.W.Frag} {g : Hp} {v : V} {d : D} (x : Dp K g v d) : ∀ {vs : List V} {ds : List D} (i : Nat), DpAll K g vs ds → DpAll K g (vs.set i v) (ds.set i d)
  | _, _, _, .nil => .nil
  | _, _, 0, .cons _ t => .cons x t
  | _, _, i + 1, .cons h t => .cons h (dpa_set x i t)
theorem dpa_erase {K : PySem.W.Frag} {g : Hp} : ∀ {vs : List V} {ds : List D} (i : Nat), DpAll K g vs ds → DpAll K g (vs.eraseIdx i) (ds.eraseIdx i)
  | _, _, _, .nil => .nil
  | _, _, 0, .cons _ t => t
  | _, _, i + 1, .cons h t => .cons h (dpa_erase i t)
theorem dpa_take {K : PySem.W.Frag} {g : Hp} : ∀ {vs : List V} {ds : List D} (i : Nat), DpAll K g vs ds → DpAll K g (vs.take i) (ds.take i)
  | _, _, 0, _ => by rw [List.take_zero, List.take_zero]; exact .nil
  | _, _, i + 1, .nil => .nil
  | _, _, i + 1, .cons h t => .cons h (dpa_take i t)
theorem dpa_drop {K : PySem.W.Frag} {g : Hp} : ∀ {vs : List V} {ds : List D} (i : Nat), DpAll K g vs ds → DpAll K g (vs.drop i) (ds.drop i)
  | _, _, 0, h => h
  | _, _, i + 1, .nil => .nil
  | _, _, i + 1, .cons h t => dpa_drop i t
theorem dpa_rev {K : PySem.W.Frag} {g : Hp} : ∀ {vs : List V} {ds : List D}, DpAll K g vs ds → DpAll K g vs.reverse ds.reverse
  | _, _, .nil => .nil
  | _, _, .cons h t => by
    rw [List.reverse_cons, List.reverse_cons]
    exact dpa_snoc (dpa_rev t) h
/-- what may stand at a shared address: lists, and tuples that are known to have no dict of their own -/
def Kn : HO → Prop
  | .lst _ => True
  | .frz o (.tup _) => o.dict = none
  | .frz _ (.lst _) => True
  | _ => False

/-! ### states: the shared heap, the heap, the slots, what they hold -/
structure Sx where
  g : Hp
  h : Hp
  s : L2.St
  r : Ev
def Own (a : Sx) (i : Nat) (p : Addr) : Prop := (∃ b ds, a.r[i]? = some (some (Sl.ow b ds))) ∧ a.s[i]? = some (some (V.ref p))
def Tied (a : Sx) (p : Addr) : Prop := ∃ i, Own a i p
structure Ok (K : PySem.W.Frag) (T B : Addr → Prop) (a : Sx) : Prop where
  tab : ∀ t, T t → GxR.TabG a.h t
  gT : ∀ t, T t → a.g t = none
  le : Sub a.g a.h
  len : a.r.length = a.s.length
  dom : ∀ p, B p → a.h p ≠ none
  kn : ∀ p u, a.g p = some u → Kn u
  sh : ∀ (i : Nat) d, a.r[i]? = some (some (Sl.sh d)) → ∃ v, a.s[i]? = some (some v) ∧ Dp K a.g v d
  ow : ∀ (i : Nat) b ds, a.r[i]? = some (some (Sl.ow b ds)) → ∃ p vs, a.s[i]? = some (some (V.ref p)) ∧ a.h p = some (.lst vs) ∧ a.g p = none ∧ (b = true → ¬ B p) ∧ DpAll K a.g vs ds
  inj : ∀ i j p, Own a i p → Own a j p → i = j
structure Nxt (T : Addr → Prop) (a b : Sx) : Prop where
  dm : ∀ p, b.h p = none → a.h p = none
  le : Sub a.g b.g
  fr : ∀ p u, a.g p = none → ¬ T p → ¬ Tied a p → a.h p = some u → b.h p = some u ∧ b.g p = none ∧ ¬ Tied b p
  pot : ∀ (i : Nat) ds, a.r[i]? = some (some (Sl.ow false ds)) → (∃ ds', b.r[i]? = some (some (Sl.ow false ds'))) ∧ b.s[i]? = a.s[i]?
section
variable {K : PySem.W.Frag} {T B : Addr → Prop} {a b c : Sx}
theorem upd_none {h : Hp} {p q : Addr} {u : HO} (e : upd h p u q = none) : h q = none := by
  by_cases z : q = p
  · subst z
    rw [upd_same] at e
    cases e
  · rw [upd_ne z] at e
    exact e
theorem Nxt.refl : Nxt T a a := ⟨fun _ e => e, .refl, fun _ _ n _ t e => ⟨e, n, t⟩, fun _ ds e => ⟨⟨ds, e⟩, rfl⟩⟩
theorem Nxt.trans (x : Nxt T a b) (y : Nxt T b c) : Nxt T a c := by
  refine ⟨fun p e => x.dm p (y.dm p e), x.le.trans y.le, fun p u n t w e => ?_, fun i ds e => ?_⟩
  · obtain ⟨e1, n1, w1⟩ := x.fr p u n t w e
    exact y.fr p u n1 t w1 e1
  · obtain ⟨⟨ds1, e1⟩, s1⟩ := x.pot i ds e
    obtain ⟨e2, s2⟩ := y.pot i ds1 e1
    exact ⟨e2, s2.trans s1⟩
theorem Ok.notT (o : Ok K T B a) {p : Addr} (n : a.h p = none) : ¬ T p := fun t => by
  obtain ⟨ps, e, _⟩ := o.tab p t
  rw [e] at n
  cases n
theorem Ok.gn (o : Ok K T B a) {p : Addr} (n : a.h p = none) : a.g p = none := by
  cases e : a.g p with
  | none => rfl
  | some u =>
    rw [o.le p u e] at n
    cases n
theorem Ok.lstT (o : Ok K T B a) {p : Addr} {vs : List V} (e : a.h p = some (.lst vs)) : ¬ T p := fun t => by
  obtain ⟨ps, e2, _⟩ := o.tab p t
  rw [e] at e2
  cases e2
theorem Ok.tied (o : Ok K T B a) {p : Addr} (t : Tied a p) : ∃ vs, a.h p = some (.lst vs) ∧ a.g p = none := by
  obtain ⟨i, ⟨b, ds, e⟩, s⟩ := t
  obtain ⟨p', vs, s', h, g, _⟩ := o.ow i b ds e
  rw [s] at s'
  cases s'
  exact ⟨vs, h, g⟩
theorem Ok.untied (o : Ok K T B a) {p : Addr} (n : a.h p = none) : ¬ Tied a p := fun t => by
  obtain ⟨vs, e, _⟩ := o.tied t
  rw [e] at n
  cases n
theorem TabG_upd {h : Hp} {p t : Addr} {o : HO} (x : GxR.TabG h t) (n : p ≠ t) : GxR.TabG (upd h p o) t := by
  obtain ⟨ps, e, q⟩ := x
  exact ⟨ps, by rw [upd_ne n.symm]; exact e, q⟩
/-- a new shared object -/
theorem Ok.newG (o : Ok K T B a) {p : Addr} {u : HO} (n : a.h p = none) (k : Kn u) : Ok K T B ⟨upd a.g p u, upd a.h p u, a.s, a.r⟩ := by
  have gn := o.gn n
  refine ⟨fun t ht => TabG_upd (o.tab t ht) fun z => o.notT n (by rw [z]; exact ht), fun t ht => ?_, fun q w e => ?_, o.len, fun q hq e => ?_, fun q w e => ?_, fun i d e => ?_, fun i b ds e => ?_, o.inj⟩
  · show upd a.g p u t = none
    rw [upd_ne fun z => o.notT n (by rw [← z]; exact ht)]
    exact o.gT t ht
  · show upd a.h p u q = some w
    have e : upd a.g p u q = some w := e
    by_cases z : q = p
    · subst z
      rw [upd_same] at e ⊢
      exact e
    · rw [upd_ne z] at e ⊢
      exact o.le q w e
  · have e : upd a.h p u q = none := e
    by_cases z : q = p
    · subst z
      rw [upd_same] at e
      cases e
    · rw [upd_ne z] at e
      exact o.dom q hq e
  · have e : upd a.g p u q = some w := e
    by_cases z : q = p
    · subst z
      rw [upd_same] at e
      cases e
      exact k
    · rw [upd_ne z] at e
      exact o.kn q w e
  · obtain ⟨v, s, d⟩ := o.sh i d e
    exact ⟨v, s, dp_sub (Sub.new gn) d⟩
  · obtain ⟨q, vs, s, h, g, nb, d⟩ := o.ow i b ds e
    have z : q ≠ p := ne_of_none h n
    exact ⟨q, vs, s, by show upd a.h p u q = _; rw [upd_ne z]; exact h, by show upd a.g p u q = _; rw [upd_ne z]; exact g, nb, dpa_sub (Sub.new gn) d⟩
theorem Ok.newG_nxt (o : Ok K T B a) {p : Addr} {u : HO} (n : a.h p = none) : Nxt T a ⟨upd a.g p u, upd a.h p u, a.s, a.r⟩ := by
  refine ⟨fun q e => upd_none e, Sub.new (o.gn n), fun q w g t w2 e => ?_, fun i ds e => ⟨⟨ds, e⟩, rfl⟩⟩
  have z : q ≠ p := ne_of_none e n
  exact ⟨by show upd a.h p u q = _; rw [upd_ne z]; exact e, by show upd a.g p u q = _; rw [upd_ne z]; exact g, w2⟩
/-- a new list of one's own, that no name holds yet -/
theorem Ok.newH (o : Ok K T B a) {p : Addr} {u : HO} (n : a.h p = none) : Ok K T B ⟨a.g, upd a.h p u, a.s, a.r⟩ := by
  refine ⟨fun t ht => TabG_upd (o.tab t ht) fun z => o.notT n (by rw [z]; exact ht), o.gT, fun q w e => ?_, o.len, fun q hq e => ?_, o.kn, o.sh, fun i b ds e => ?_, o.inj⟩
  · have h := o.le q w e
    show upd a.h p u q = some w
    rw [upd_ne (ne_of_none h n)]
    exact h
  · have e : upd a.h p u q = none := e
    by_cases z : q = p
    · subst z
      rw [upd_same] at e
      cases e
    · rw [upd_ne z] at e
      exact o.dom q hq e
  · obtain ⟨q, vs, s, h, g, nb, d⟩ := o.ow i b ds e
    exact ⟨q, vs, s, by show upd a.h p u q = _; rw [upd_ne (ne_of_none h n)]; exact h, g, nb, d⟩
theorem Ok.newH_nxt (o : Ok K T B a) {p : Addr} {u : HO} (n : a.h p = none) : Nxt T a ⟨a.g, upd a.h p u, a.s, a.r⟩ :=
  ⟨fun q e => upd_none e, .refl, fun q w g t w2 e => ⟨by show upd a.h p u q = _; rw [upd_ne (ne_of_none e n)]; exact e, g, w2⟩, fun i ds e => ⟨⟨ds, e⟩, rfl⟩⟩
/-- an untied list of one's own is changed -/
theorem Ok.putH (o : Ok K T B a) {p : Addr} {vs : List V} {u : HO} (e : a.h p = some (.lst vs)) (g : a.g p = none) (w : ¬ Tied a p) : Ok K T B ⟨a.g, upd a.h p u, a.s, a.r⟩ := by
  have nT := o.lstT e
  refine ⟨fun t ht => TabG_upd (o.tab t ht) fun z => nT (by rw [z]; exact ht), o.gT, fun q x e' => ?_, o.len, fun q hq e' => ?_, o.kn, o.sh, fun i b ds e' => ?_, o.inj⟩
  · have h := o.le q x e'
    show upd a.h p u q = some x
    rw [upd_ne fun z => by rw [z, g] at e'; cases e']
    exact h
  · have e' : upd a.h p u q = none := e'
    by_cases z : q = p
    · subst z
      rw [upd_same] at e'
      cases e'
    · rw [upd_ne z] at e'
      exact o.dom q hq e'
  · obtain ⟨q, ws, s, h, g', nb, d⟩ := o.ow i b ds e'
    have z : q ≠ p := fun z => w ⟨i, ⟨b, ds, e'⟩, by rw [s, z]⟩
    exact ⟨q, ws, s, by show upd a.h p u q = _; rw [upd_ne z]; exact h, g', nb, d⟩
/-- an untied list of one's own is shared from now on -/
theorem Ok.rel (o : Ok K T B a) {p : Addr} {vs : List V} (e : a.h p = some (.lst vs)) (g : a.g p = none) (w : ¬ Tied a p) : Ok K T B ⟨upd a.g p (.lst vs), a.h, a.s, a.r⟩ := by
  have nT := o.lstT e
  refine ⟨o.tab, fun t ht => ?_, fun q x e' => ?_, o.len, o.dom, fun q x e' => ?_, fun i d e' => ?_, fun i b ds e' => ?_, o.inj⟩
  · show upd a.g p _ t = none
    rw [upd_ne fun z => nT (by rw [← z]; exact ht)]
    exact o.gT t ht
  · have e' : upd a.g p (.lst vs) q = some x := e'
    by_cases z : q = p
    · subst z
      rw [upd_same] at e'
      cases e'
      exact e
    · rw [upd_ne z] at e'
      exact o.le q x e'
  · have e' : upd a.g p (.lst vs) q = some x := e'
    by_cases z : q = p
    · subst z
      rw [upd_same] at e'
      cases e'
      trivial
    · rw [upd_ne z] at e'
      exact o.kn q x e'
  · obtain ⟨v, s, d⟩ := o.sh i d e'
    exact ⟨v, s, dp_sub (Sub.new g) d⟩
  · obtain ⟨q, ws, s, h, g', nb, d⟩ := o.ow i b ds e'
    have z : q ≠ p := fun z => w ⟨i, ⟨b, ds, e'⟩, by rw [s, z]⟩
    exact ⟨q, ws, s, h, by show upd a.g p _ q = _; rw [upd_ne z]; exact g', nb, dpa_sub (Sub.new g) d⟩
theorem Nxt.rel (x : Nxt T a b) {p : Addr} {u : HO} (n : a.h p = none) (g : b.g p = none) : Nxt T a ⟨upd b.g p u, b.h, b.s, b.r⟩ := by
  refine ⟨x.dm, x.le.trans (Sub.new g), fun q w n' t w2 e => ?_, x.pot⟩
  obtain ⟨e1, n1, w1⟩ := x.fr q w n' t w2 e
  exact ⟨e1, by show upd b.g p u q = _; rw [upd_ne (ne_of_none e n)]; exact n1, w1⟩
theorem set_get {α : Type} {l : List α} {i j : Nat} {x y : α} (h : (l.set i x)[j]? = some y) : (i = j ∧ y = x) ∨ (i ≠ j ∧ l[j]? = some y) := by
  by_cases z : i = j
  · subst z
    by_cases hl : i < l.length
    · rw [List.getElem?_set_self hl] at h
      exact .inl ⟨rfl, (Option.some.inj h).symm⟩
    · rw [List.getElem?_eq_none (by simpa using hl)] at h
      cases h
  · rw [List.getElem?_set_ne z] at h
    exact .inr ⟨z, h⟩
theorem set_lt {α : Type} {l : List α} {i : Nat} {x : α} (h : i < l.length) : (l.set i x)[i]? = some x := List.getElem?_set_self h
/-- what a slot may be stored into: not the caller's own list -/
def Free (r : Ev) (i : Nat) : Prop := i < r.length ∧ ∀ ds, r[i]? ≠ some (some (Sl.ow false ds))
theorem own_set {g h : Hp} {i j : Nat} {q : Addr} {x : Option V} {y : Option Sl} (ne : i ≠ j) (w : Own ⟨g, h, a.s.set i x, a.r.set i y⟩ j q) : Own a j q := by
  obtain ⟨⟨b, ds, e⟩, s⟩ := w
  have e : (a.r.set i y)[j]? = _ := e
  have s : (a.s.set i x)[j]? = _ := s
  rw [List.getElem?_set_ne ne] at e s
  exact ⟨⟨b, ds, e⟩, s⟩
/-- a shared thing is stored -/
theorem Ok.setSh (o : Ok K T B a) {i : Nat} {v : V} {d : D} (f : Free a.r i) (x : Dp K a.g v d) : Ok K T B ⟨a.g, a.h, a.s.set i (some v), a.r.set i (some (Sl.sh d))⟩ := by
  have li : i < a.s.length := by rw [← o.len]; exact f.1
  refine ⟨o.tab, o.gT, o.le, by simpa using o.len, o.dom, o.kn, fun j e h => ?_, fun j b ds h => ?_, fun j k p h1 h2 => ?_⟩
  · rcases set_get (l := a.r) h with ⟨rfl, z⟩ | ⟨ne, h⟩
    · cases z
      exact ⟨v, set_lt li, x⟩
    · obtain ⟨w, s, y⟩ := o.sh j e h
      exact ⟨w, by show (a.s.set i _)[j]? = _; rw [List.getElem?_set_ne ne]; exact s, y⟩
  · rcases set_get (l := a.r) h with ⟨rfl, z⟩ | ⟨ne, h⟩
    · cases z
    · obtain ⟨p, vs, s, r⟩ := o.ow j b ds h
      exact ⟨p, vs, by show (a.s.set i _)[j]? = _; rw [List.getElem?_set_ne ne]; exact s, r⟩
  · have nj : ∀ k, Own ⟨a.g, a.h, a.s.set i (some v), a.r.set i (some (Sl.sh d))⟩ k p → i ≠ k := fun k ⟨⟨b, ds, e⟩, _⟩ z => by
      rcases set_get (l := a.r) e with ⟨_, z2⟩ | ⟨z2, _⟩
      · cases z2
      · exact z2 z
    exact o.inj j k p (own_set (nj j h1) h1) (own_set (nj k h2) h2)
theorem Nxt.setSh {i : Nat} {v : V} {d : D} (f : Free a.r i) : Nxt T a ⟨a.g, a.h, a.s.set i (some v), a.r.set i (some (Sl.sh d))⟩ := by
  refine ⟨fun _ e => e, .refl, fun p u n t w e => ⟨e, n, fun ⟨j, hj⟩ => ?_⟩, fun j ds e => ?_⟩
  · by_cases z : i = j
    · obtain ⟨⟨b, ds, e⟩, _⟩ := hj
      rcases set_get (l := a.r) e with ⟨_, z2⟩ | ⟨z2, _⟩
      · cases z2
      · exact z2 z
    · exact w ⟨j, own_set z hj⟩
  · have z : i ≠ j := fun z => f.2 ds (by rw [z]; exact e)
    exact ⟨⟨ds, by show (a.r.set i _)[j]? = _; rw [List.getElem?_set_ne z]; exact e⟩, by show (a.s.set i _)[j]? = _; rw [List.getElem?_set_ne z]⟩
/-- a slot is forgotten -/
theorem Ok.drop (o : Ok K T B a) {i : Nat} {x : Option V} : Ok K T B ⟨a.g, a.h, a.s.set i x, a.r.set i none⟩ := by
  refine ⟨o.tab, o.gT, o.le, by simpa using o.len, o.dom, o.kn, fun j e h => ?_, fun j b ds h => ?_, fun j k p h1 h2 => ?_⟩
  · rcases set_get (l := a.r) h with ⟨rfl, z⟩ | ⟨ne, h⟩
    · cases z
    · obtain ⟨w, s, y⟩ := o.sh j e h
      exact ⟨w, by show (a.s.set i _)[j]? = _; rw [List.getElem?_set_ne ne]; exact s, y⟩
  · rcases set_get (l := a.r) h with ⟨rfl, z⟩ | ⟨ne, h⟩
    · cases z
    · obtain ⟨p, vs, s, r⟩ := o.ow j b ds h
      exact ⟨p, vs, by show (a.s.set i _)[j]? = _; rw [List.getElem?_set_ne ne]; exact s, r⟩
  · have nj : ∀ k, Own ⟨a.g, a.h, a.s.set i x, a.r.set i none⟩ k p → i ≠ k := fun k ⟨⟨b, ds, e⟩, _⟩ z => by
      rcases set_get (l := a.r) e with ⟨_, z2⟩ | ⟨z2, _⟩
      · cases z2
      · exact z2 z
    exact o.inj j k p (own_set (nj j h1) h1) (own_set (nj k h2) h2)
theorem Nxt.drop {i : Nat} {x : Option V} (f : ∀ ds, a.r[i]? ≠ some (some (Sl.ow false ds))) : Nxt T a ⟨a.g, a.h, a.s.set i x, a.r.set i none⟩ := by
  refine ⟨fun _ e => e, .refl, fun p u n t w e => ⟨e, n, fun ⟨j, hj⟩ => ?_⟩, fun j ds e => ?_⟩
  · by_cases z : i = j
    · obtain ⟨⟨b, ds, e⟩, _⟩ := hj
      rcases set_get (l := a.r) e with ⟨_, z2⟩ | ⟨z2, _⟩
      · cases z2
      · exact z2 z
    · exact w ⟨j, own_set z hj⟩
  · have z : i ≠ j := fun z => f ds (by rw [z]; exact e)
    exact ⟨⟨ds, by show (a.r.set i _)[j]? = _; rw [List.getElem?_set_ne z]; exact e⟩, by show (a.s.set i _)[j]? = _; rw [List.getElem?_set_ne z]⟩
/-- a list of one's own is stored -/
theorem Ok.setOw (o : Ok K T B a) {i : Nat} {p : Addr} {vs : List V} {ds : List D} (f : Free a.r i) (e : a.h p = some (.lst vs)) (g : a.g p = none) (w : ¬ Tied a p) (nb : ¬ B p) (x : DpAll K a.g vs ds) :
    Ok K T B ⟨a.g, a.h, a.s.set i (some (V.ref p)), a.r.set i (some (Sl.ow true ds))⟩ := by
  have li : i < a.s.length := by rw [← o.len]; exact f.1
  have key : ∀ j q, Own ⟨a.g, a.h, a.s.set i (some (V.ref p)), a.r.set i (some (Sl.ow true ds))⟩ j q → (i = j ∧ q = p) ∨ Own a j q := fun j q hj => by
    by_cases z : i = j
    · subst z
      obtain ⟨_, s⟩ := hj
      have s : (a.s.set i _)[i]? = _ := s
      rw [set_lt li] at s
      cases s
      exact .inl ⟨rfl, rfl⟩
    · exact .inr (own_set z hj)
  refine ⟨o.tab, o.gT, o.le, by simpa using o.len, o.dom, o.kn, fun j e' h => ?_, fun j b es h => ?_, fun j k q h1 h2 => ?_⟩
  · rcases set_get (l := a.r) h with ⟨rfl, z⟩ | ⟨ne, h⟩
    · cases z
    · obtain ⟨u, s, y⟩ := o.sh j e' h
      exact ⟨u, by show (a.s.set i _)[j]? = _; rw [List.getElem?_set_ne ne]; exact s, y⟩
  · rcases set_get (l := a.r) h with ⟨rfl, z⟩ | ⟨ne, h⟩
    · cases z
      exact ⟨p, vs, set_lt li, e, g, fun _ => nb, x⟩
    · obtain ⟨q, ws, s, r⟩ := o.ow j b es h
      exact ⟨q, ws, by show (a.s.set i _)[j]? = _; rw [List.getElem?_set_ne ne]; exact s, r⟩
  · rcases key j q h1 with ⟨z1, e1⟩ | h1
    · rcases key k q h2 with ⟨z2, _⟩ | h2
      · exact z1.symm.trans z2
      · exact (w ⟨k, by rw [← e1]; exact h2⟩).elim
    · rcases key k q h2 with ⟨_, e2⟩ | h2
      · exact (w ⟨j, by rw [← e2]; exact h1⟩).elim
      · exact o.inj j k q h1 h2
theorem Nxt.setOw (x : Nxt T a b) {i : Nat} {p : Addr} {ds : List D} (f : Free b.r i) (li : b.r.length = b.s.length) (n : a.h p = none) : Nxt T a ⟨b.g, b.h, b.s.set i (some (V.ref p)), b.r.set i (some (Sl.ow true ds))⟩ := by
  refine ⟨x.dm, x.le, fun q u n' t w e => ?_, fun j es e => ?_⟩
  · obtain ⟨e1, n1, w1⟩ := x.fr q u n' t w e
    refine ⟨e1, n1, fun ⟨j, hj⟩ => ?_⟩
    by_cases z : i = j
    · subst z
      obtain ⟨_, s⟩ := hj
      have s : (b.s.set i _)[i]? = _ := s
      rw [set_lt (by rw [← li]; exact f.1)] at s
      cases s
      rw [n] at e
      cases e
    · exact w1 ⟨j, own_set z hj⟩
  · obtain ⟨⟨ds1, e1⟩, s1⟩ := x.pot j es e
    have z : i ≠ j := fun z => f.2 ds1 (by rw [z]; exact e1)
    exact ⟨⟨ds1, by show (b.r.set i _)[j]? = _; rw [List.getElem?_set_ne z]; exact e1⟩, by show (b.s.set i _)[j]? = _; rw [List.getElem?_set_ne z]; exact s1⟩
/-- a list of one's own that a name holds is changed -/
theorem Ok.write (o : Ok K T B a) {i : Nat} {b : Bool} {p : Addr} {vs ws : List V} {ds es : List D} (er : a.r[i]? = some (some (Sl.ow b ds))) (es' : a.s[i]? = some (some (V.ref p))) (e : a.h p = some (.lst vs)) (x : DpAll K a.g ws es) :
    Ok K T B ⟨a.g, upd a.h p (.lst ws), a.s, a.r.set i (some (Sl.ow b es))⟩ := by
  have li : i < a.r.length := (List.getElem?_eq_some_iff.mp er).1
  obtain ⟨p', vs', s', h', g', nb', _⟩ := o.ow i b ds er
  rw [es'] at s'
  cases s'
  have nT := o.lstT e
  have key : ∀ j q, Own ⟨a.g, upd a.h p (.lst ws), a.s, a.r.set i (some (Sl.ow b es))⟩ j q → Own a j q := fun j q ⟨⟨b2, d2, e2⟩, s2⟩ => by
    rcases set_get (l := a.r) e2 with ⟨rfl, z⟩ | ⟨_, z⟩
    · exact ⟨⟨b, ds, er⟩, s2⟩
    · exact ⟨⟨b2, d2, z⟩, s2⟩
  refine ⟨fun t ht => TabG_upd (o.tab t ht) fun z => nT (by rw [z]; exact ht), o.gT, fun q u e' => ?_, by simpa using o.len, fun q hq e' => ?_, o.kn, fun j d h => ?_, fun j b2 d2 h => ?_, fun j k q h1 h2 => o.inj j k q (key j q h1) (key k q h2)⟩
  · have h := o.le q u e'
    show upd a.h p _ q = some u
    rw [upd_ne fun z => by rw [z, g'] at e'; cases e']
    exact h
  · have e' : upd a.h p (.lst ws) q = none := e'
    by_cases z : q = p
    · subst z
      rw [upd_same] at e'
      cases e'
    · rw [upd_ne z] at e'
      exact o.dom q hq e'
  · rcases set_get (l := a.r) h with ⟨_, z⟩ | ⟨_, h⟩
    · cases z
    · exact o.sh j d h
  · rcases set_get (l := a.r) h with ⟨rfl, z⟩ | ⟨ne, h⟩
    · cases z
      exact ⟨p, ws, es', by show upd a.h p _ p = _; rw [upd_same], g', nb', x⟩
    · obtain ⟨q, us, s, hq, gq, nq, dq⟩ := o.ow j b2 d2 h
      have z : q ≠ p := fun z => ne (o.inj i j p ⟨⟨b, ds, er⟩, es'⟩ ⟨⟨b2, d2, h⟩, by rw [s, z]⟩)
      exact ⟨q, us, s, by show upd a.h p _ q = _; rw [upd_ne z]; exact hq, gq, nq, dq⟩
theorem Nxt.write (o : Ok K T B a) {i : Nat} {b : Bool} {p : Addr} {ws : List V} {ds es : List D} (er : a.r[i]? = some (some (Sl.ow b ds))) (es' : a.s[i]? = some (some (V.ref p))) :
    Nxt T a ⟨a.g, upd a.h p (.lst ws), a.s, a.r.set i (some (Sl.ow b es))⟩ := by
  have li : i < a.r.length := (List.getElem?_eq_some_iff.mp er).1
  refine ⟨fun q e => upd_none e, .refl, fun q u n t w e => ⟨?_, n, fun ⟨j, ⟨b2, d2, e2⟩, s2⟩ => ?_⟩, fun j d2 e => ?_⟩
  · show upd a.h p _ q = _
    rw [upd_ne fun z => w ⟨i, ⟨b, ds, er⟩, by rw [es', z]⟩]
    exact e
  · rcases set_get (l := a.r) e2 with ⟨rfl, z⟩ | ⟨_, z⟩
    · exact w ⟨i, ⟨b, ds, er⟩, s2⟩
    · exact w ⟨j, ⟨b2, d2, z⟩, s2⟩
  · by_cases z : i = j
    · subst z
      rw [er] at e
      cases e
      exact ⟨⟨es, set_lt li⟩, rfl⟩
    · exact ⟨⟨d2, by show (a.r.set i _)[j]? = _; rw [List.getElem?_set_ne z]; exact e⟩, rfl⟩
/-- a list of one's own that a name holds is shared from now on -/
theorem Ok.relv (o : Ok K T B a) {i : Nat} {p : Addr} {vs : List V} {ds : List D} (er : a.r[i]? = some (some (Sl.ow true ds))) (es' : a.s[i]? = some (some (V.ref p))) (e : a.h p = some (.lst vs)) (x : DpAll K a.g vs ds) :
    Ok K T B ⟨upd a.g p (.lst vs), a.h, a.s, a.r.set i (some (Sl.sh (.list ds)))⟩ := by
  have li : i < a.r.length := (List.getElem?_eq_some_iff.mp er).1
  obtain ⟨p', vs', s', h', g', nb', _⟩ := o.ow i true ds er
  rw [es'] at s'
  cases s'
  have nT := o.lstT e
  have key : ∀ j q, Own ⟨upd a.g p (.lst vs), a.h, a.s, a.r.set i (some (Sl.sh (.list ds)))⟩ j q → Own a j q := fun j q ⟨⟨b2, d2, e2⟩, s2⟩ => by
    rcases set_get (l := a.r) e2 with ⟨_, z⟩ | ⟨_, z⟩
    · cases z
    · exact ⟨⟨b2, d2, z⟩, s2⟩
  refine ⟨o.tab, fun t ht => ?_, fun q u e' => ?_, by simpa using o.len, o.dom, fun q u e' => ?_, fun j d h => ?_, fun j b2 d2 h => ?_, fun j k q h1 h2 => o.inj j k q (key j q h1) (key k q h2)⟩
  · show upd a.g p _ t = none
    rw [upd_ne fun z => nT (by rw [← z]; exact ht)]
    exact o.gT t ht
  · have e' : upd a.g p (.lst vs) q = some u := e'
    by_cases z : q = p
    · subst z
      rw [upd_same] at e'
      cases e'
      exact e
    · rw [upd_ne z] at e'
      exact o.le q u e'
  · have e' : upd a.g p (.lst vs) q = some u := e'
    by_cases z : q = p
    · subst z
      rw [upd_same] at e'
      cases e'
      trivial
    · rw [upd_ne z] at e'
      exact o.kn q u e'
  · rcases set_get (l := a.r) h with ⟨rfl, z⟩ | ⟨_, h⟩
    · cases z
      exact ⟨.ref p, es', .lst (SqL.of upd_same) (dpa_sub (Sub.new g') x)⟩
    · obtain ⟨w, s, y⟩ := o.sh j d h
      exact ⟨w, s, dp_sub (Sub.new g') y⟩
  · rcases set_get (l := a.r) h with ⟨_, z⟩ | ⟨ne, h⟩
    · cases z
    · obtain ⟨q, us, s, hq, gq, nq, dq⟩ := o.ow j b2 d2 h
      have z : q ≠ p := fun z => ne (o.inj i j p ⟨⟨true, ds, er⟩, es'⟩ ⟨⟨b2, d2, h⟩, by rw [s, z]⟩)
      exact ⟨q, us, s, hq, by show upd a.g p _ q = _; rw [upd_ne z]; exact gq, nq, dpa_sub (Sub.new g') dq⟩
theorem Nxt.relv {i : Nat} {p : Addr} {vs : List V} {ds : List D} (er : a.r[i]? = some (some (Sl.ow true ds))) (es' : a.s[i]? = some (some (V.ref p))) (g : a.g p = none) :
    Nxt T a ⟨upd a.g p (.lst vs), a.h, a.s, a.r.set i (some (Sl.sh (.list ds)))⟩ := by
  have ti : Tied a p := ⟨i, ⟨true, ds, er⟩, es'⟩
  refine ⟨fun _ e => e, Sub.new g, fun q u n t w e => ⟨e, ?_, fun ⟨j, ⟨b2, d2, e2⟩, s2⟩ => ?_⟩, fun j d2 e => ?_⟩
  · show upd a.g p _ q = _
    rw [upd_ne fun z => w (by rw [z]; exact ti)]
    exact n
  · rcases set_get (l := a.r) e2 with ⟨_, z⟩ | ⟨_, z⟩
    · cases z
    · exact w ⟨j, ⟨b2, d2, z⟩, s2⟩
  · have z : i ≠ j := fun z => by
      rw [← z, er] at e
      cases e
    exact ⟨⟨d2, by show (a.r.set i _)[j]? = _; rw [List.getElem?_set_ne z]; exact e⟩, rfl⟩
/-- tables grow -/
theorem Ok.tabbed (o : Ok K T B a) {t : Addr} {h' : Hp} (ht : T t) (x : GxR.Tabbed t a.h h') : Ok K T B ⟨a.g, h', a.s, a.r⟩ := by
  have keep : ∀ p, p ≠ t → h' p = a.h p := fun p ne => x.2 p ne
  refine ⟨fun q hq => ?_, o.gT, fun q u e => ?_, o.len, fun q hq e => ?_, o.kn, o.sh, fun i b ds e => ?_, o.inj⟩
  · by_cases z : q = t
    · rw [z]
      exact x.1
    · obtain ⟨ps, e, r⟩ := o.tab q hq
      exact ⟨ps, by show h' q = _; rw [keep q z]; exact e, r⟩
  · show h' q = _
    rw [keep q fun z => by rw [z, o.gT t ht] at e; cases e]
    exact o.le q u e
  · by_cases z : q = t
    · obtain ⟨ps, e2, _⟩ := x.1
      have e : h' q = none := e
      rw [z, e2] at e
      cases e
    · have e : h' q = none := e
      rw [keep q z] at e
      exact o.dom q hq e
  · obtain ⟨p, vs, s, h, r⟩ := o.ow i b ds e
    exact ⟨p, vs, s, by show h' p = _; rw [keep p fun z => o.lstT h (by rw [z]; exact ht)]; exact h, r⟩
theorem Nxt.tabbed {t : Addr} {h' : Hp} (ht : T t) (x : GxR.Tabbed t a.h h') : Nxt T a ⟨a.g, h', a.s, a.r⟩ :=
  ⟨fun p e => by
    by_cases z : p = t
    · obtain ⟨ps, e2, _⟩ := x.1
      have e : h' p = none := e
      rw [z, e2] at e
      cases e
    · have e : h' p = none := e
      rw [x.2 p z] at e
      exact e, .refl, fun p u n nt w e => ⟨by show h' p = _; rw [x.2 p fun z => nt (by rw [z]; exact ht)]; exact e, n, w⟩, fun i ds e => ⟨⟨ds, e⟩, rfl⟩⟩
end
end Pv

set_option Elab.async false
set_option linter.all false
set_option maxRecDepth 100000
set_option maxHeartbeats 2000000
namespace Lb
open PySem PySem.Spec PyProof.Rows L2

/-! ### small data: depth at most n, text at most m signs -/
structure Nice (n m : Nat) (d : PyData) : Prop where
  dep : d.depth ≤ n
  lay : d.canLay0 = true
  shw : d.showable = true
  txt : d.shown.length ≤ m
theorem Nice.mono {n m n' m' : Nat} {d : PyData} (h : Nice n m d) (h1 : n ≤ n') (h2 : m ≤ m') : Nice n' m' d := ⟨Nat.le_trans h.dep h1, h.lay, h.shw, Nat.le_trans h.txt h2⟩
theorem Nice.shaped {n m : Nat} {d : PyData} (h : Nice n m d) (hn : n ≤ 64) : SeqAt.shaped d = true := by
  unfold SeqAt.shaped
  rw [h.lay, decide_eq_true (Nat.le_trans h.dep hn)]
  rfl
theorem Nice.refl {n m : Nat} {d : PyData} (h : Nice n m d) : PyData.eqv d d = true := PySem.SeqAt.eqv_refl_plain d (PyData.plain_of_canLay0 d h.lay)
theorem Nice.noDict {n m : Nat} {d : PyData} (h : Nice n m d) : d.hasDict = false := PyData.hasDict_of_canLay d h.lay
theorem small_text : ∀ k : Fin 100, ((toString ((k.val : Nat) : Int) : String) : Str).length ≤ 2 := by decide +kernel
theorem nice_int {k : Nat} (h : k < 100) : Nice 0 2 (.int (k : Int)) := by
  refine ⟨Nat.le_refl _, rfl, ?_, small_text ⟨k, h⟩⟩
  show decide (((k : Int)).natAbs.log2 < 1920) = true
  refine decide_eq_true ?_
  rw [Int.natAbs_natCast]
  by_cases h0 : k = 0
  · subst h0
    decide
  · have := (Nat.log2_lt h0 (k := 1920)).mpr (Nat.lt_of_lt_of_le h (Nat.le_trans (by decide : 100 ≤ 2 ^ 7) (Nat.pow_le_pow_right (by decide) (by decide))))
    exact this
theorem textFrom_le : ∀ (ts : List Str) (k : Nat) (acc : Str), (textFrom k acc ts).length ≤ acc.length + piled ts
  | [], k, acc => Nat.le_refl _
  | t :: r, k, acc => by
    have h := textFrom_le r (k + 1) (acc ++ (if k > 0 then ", " else "" : String) ++ t)
    have e : (acc ++ (if k > 0 then ", " else "" : String) ++ t : Str).length ≤ acc.length + 2 + t.length := by
      rw [strLen_append, strLen_append]
      split
      · exact Nat.le_refl _
      · show acc.length + 0 + t.length ≤ _
        omega
    rw [piled_cons]
    exact Nat.le_trans h (by omega)
theorem piled_bound {m : Nat} : ∀ ts : List Str, (∀ t ∈ ts, t.length ≤ m) → piled ts ≤ (m + 2) * ts.length
  | [], _ => Nat.le_refl _
  | t :: r, h => by
    rw [piled_cons, List.length_cons, Nat.mul_add]
    have h1 := h t (.head _)
    have h2 := piled_bound r fun x hx => h x (.tail _ hx)
    omega
theorem shownAll_map : ∀ ds : List PyData, PyData.shownAll ds = ds.map PyData.shown
  | [] => by rw [PyData.shownAll]; rfl
  | d :: r => by rw [PyData.shownAll, shownAll_map r]; rfl
theorem all_nice {n m : Nat} : ∀ ds : List PyData, (∀ d ∈ ds, Nice n m d) → PyData.depthAll ds ≤ n ∧ PyData.canLayAll0 ds = true ∧ PyData.showableAll ds = true
  | [], _ => ⟨by rw [PyData.depthAll]; exact Nat.zero_le _, by rw [PyData.canLayAll0], by rw [PyData.showableAll]⟩
  | d :: r, h => by
    have h1 := h d (.head _)
    obtain ⟨a, b, c⟩ := all_nice r fun x hx => h x (.tail _ hx)
    refine ⟨?_, ?_, ?_⟩
    · rw [PyData.depthAll]
      exact Nat.max_le.mpr ⟨h1.dep, a⟩
    · rw [PyData.canLayAll0, h1.lay, b]
      rfl
    · rw [PyData.showableAll, h1.shw, c]
      rfl
theorem shown_pile {n m : Nat} {ds : List PyData} (h : ∀ d ∈ ds, Nice n m d) : piled (PyData.shownAll ds) ≤ (m + 2) * ds.length := by
  have z := piled_bound (m := m) (PyData.shownAll ds) (by
    rw [shownAll_map]
    intro t ht
    obtain ⟨d, hd, rfl⟩ := List.mem_map.mp ht
    exact (h d hd).txt)
  rw [shownAll_map, List.length_map] at z
  rw [shownAll_map]
  exact z
theorem nice_list {n m : Nat} {ds : List PyData} (h : ∀ d ∈ ds, Nice n m d) : Nice (n + 1) ((m + 2) * ds.length + 4) (.list ds) := by
  obtain ⟨a, b, c⟩ := all_nice ds h
  refine ⟨?_, ?_, ?_, ?_⟩
  · rw [PyData.depth]
    omega
  · rw [PyData.canLay0]
    exact b
  · rw [PyData.showable]
    exact c
  · rw [PyData.shown]
    unfold listText
    rw [strLen_append]
    have z := textFrom_le (PyData.shownAll ds) 0 "["
    have z2 := shown_pile h
    have e1 : (("[" : String) : Str).length = 1 := rfl
    have e2 : (("]" : String) : Str).length = 1 := rfl
    omega
theorem nice_tup {n m : Nat} {ds : List PyData} (h : ∀ d ∈ ds, Nice n m d) : Nice (n + 1) ((m + 2) * ds.length + 4) (.tuple ds) := by
  obtain ⟨a, b, c⟩ := all_nice ds h
  refine ⟨?_, ?_, ?_, ?_⟩
  · rw [PyData.depth]
    omega
  · rw [PyData.canLay0]
    exact b
  · rw [PyData.showable]
    exact c
  · rw [PyData.shown]
    unfold tupleText
    rw [strLen_append, strLen_append]
    have z2 := shown_pile h
    have e1 : (("(" : String) : Str).length = 1 := rfl
    have e3 : ((if ((PyData.shownAll ds).length == 1) = true then (",)" : String) else ")" : String) : Str).length ≤ 2 := by split <;> decide
    have z : (Str.join ", " (PyData.shownAll ds)).length ≤ piled (PyData.shownAll ds) := by
      by_cases e : PyData.shownAll ds = []
      · rw [e]
        decide
      · have := join_length_add _ e
        omega
    omega

/-! ### orders as data -/
def dl (o : List Nat) : List PyData := o.map fun k : Nat => PyData.int (k : Int)
theorem nice_ord {o : List Nat} (h : ∀ k ∈ o, k < 100) (hl : o.length ≤ 100) : Nice 1 404 (.list (dl o)) ∧ Nice 1 404 (.tuple (dl o)) := by
  have z : ∀ d ∈ dl o, Nice 0 2 d := fun d hd => by
    obtain ⟨k, hk, rfl⟩ := List.mem_map.mp hd
    exact nice_int (h k hk)
  have e : (dl o).length = o.length := List.length_map _
  exact ⟨(nice_list z).mono (Nat.le_refl _) (by rw [e]; omega), (nice_tup z).mono (Nat.le_refl _) (by rw [e]; omega)⟩
end Lb

set_option Elab.async false
set_option linter.all false
set_option maxRecDepth 100000
set_option maxHeartbeats 2000000
namespace Pv
open PySem PySem.Spec PyProof.Rows L2 Lb

/-! ### what an expression does, as a function of what the names hold -/
abbrev FP := Ev → Option D
abbrev FH := Ev → Option (D × Ev)
abbrev FO := Ev → Option (List D × Ev)
abbrev FT := Ev → Option (Bool × Ev)
def RepB (K : PySem.W.Frag) (a : Sx) (v : V) (d : D) : Prop := Dp K a.g v d ∨ ∃ (i : Nat) (b : Bool) (ds : List D), a.r[i]? = some (some (Sl.ow b ds)) ∧ a.s[i]? = some (some v) ∧ d = .list ds
section
variable {K : PySem.W.Frag} {T B : Addr → Prop} {a b : Sx} {v : V} {d : D} {ds : List D}
theorem RepB.nxt (h : RepB K a v d) (x : Nxt T a b) (hs : b.s = a.s) (hr : b.r = a.r) : RepB K b v d := by
  rcases h with h | ⟨i, b', ds, e, s, q⟩
  · exact .inl (dp_sub x.le h)
  · exact .inr ⟨i, b', ds, by rw [hr]; exact e, by rw [hs]; exact s, q⟩
theorem RepB.dp (o : Ok K T B a) (h : RepB K a v d) : Dp K a.h v d := by
  rcases h with h | ⟨i, b', ds, e, s, rfl⟩
  · exact dp_sub o.le h
  · obtain ⟨p, vs, s', h, g, _, x⟩ := o.ow i b' ds e
    rw [s] at s'
    cases s'
    exact .lst (SqL.of h) (dpa_sub o.le x)
theorem RepB.list (o : Ok K T B a) (h : RepB K a v (.list ds)) : ∃ p vs, v = .ref p ∧ SqL K a.h p vs ∧ DpAll K a.g vs ds := by
  rcases h with h | ⟨i, b', ds, e, s, q⟩
  · cases h with
    | lst h t => exact ⟨_, _, rfl, sql_sub o.le h, t⟩
  · cases q
    obtain ⟨p, vs, s', h, g, _, x⟩ := o.ow i b' ds e
    rw [s] at s'
    cases s'
    exact ⟨_, _, rfl, SqL.of h, x⟩
theorem RepB.sh (h : RepB K a v d) (n : ∀ ds, d ≠ .list ds) : Dp K a.g v d := by
  rcases h with h | ⟨i, b', ds, e, s, q⟩
  · exact h
  · exact absurd q (n ds)
theorem RepB.tuple (o : Ok K T B a) (h : RepB K a v (.tuple ds)) : ∃ p vs, v = .ref p ∧ SqT K a.g p vs ∧ SqT K a.h p vs ∧ DpAll K a.g vs ds := by
  cases h.sh fun ds z => by cases z
  rename_i h1 t
  exact ⟨_, _, rfl, h1, sqt_sub o.le h1, t⟩
theorem RepB.int {i : Int} (h : RepB K a v (.int i)) : v = .int i := by
  cases h.sh fun ds z => by cases z
  rfl
theorem RepB.bool {i : Bool} (h : RepB K a v (.bool i)) : v = .bl i := by
  cases h.sh fun ds z => by cases z
  rfl
theorem RepB.none_ (h : RepB K a v .none) : v = .non := by
  cases h.sh fun ds z => by cases z
  rfl
/-- a list or a tuple, to be walked or looked into -/
def seqD : D → Option (List D)
  | .list ds => some ds
  | .tuple ds => some ds
  | _ => none
theorem RepB.seq (o : Ok K T B a) (h : RepB K a v d) (e : seqD d = some ds) : ∃ p vs, v = .ref p ∧ SeqLT K a.h p vs ∧ DpAll K a.g vs ds := by
  cases d with
  | list xs =>
    cases e
    obtain ⟨p, vs, e1, h1, t⟩ := h.list o
    exact ⟨p, vs, e1, .inl h1, t⟩
  | tuple xs =>
    cases e
    obtain ⟨p, vs, e1, _, h1, t⟩ := h.tuple o
    exact ⟨p, vs, e1, .inr h1, t⟩
  | _ => cases e
end

def SB (K : PySem.W.Frag) (T : Addr → Prop) (t : TE) (f : FP) : Prop := ∀ (B : Addr → Prop) (a : Sx) (d : D) (Q : VK), Ok K T B a → f a.r = some d → (∀ v g' h', Ok K T B ⟨g', h', a.s, a.r⟩ → Nxt T a ⟨g', h', a.s, a.r⟩ → RepB K ⟨g', h', a.s, a.r⟩ v d → Q v h') → t a.s a.h Q
def SP (K : PySem.W.Frag) (T : Addr → Prop) (t : TE) (f : FP) : Prop := ∀ (B : Addr → Prop) (a : Sx) (d : D) (Q : VK), Ok K T B a → f a.r = some d → (∀ v g' h', Ok K T B ⟨g', h', a.s, a.r⟩ → Nxt T a ⟨g', h', a.s, a.r⟩ → Dp K g' v d → Q v h') → t a.s a.h Q
def SH (K : PySem.W.Frag) (T : Addr → Prop) (t : TE) (f : FH) : Prop := ∀ (B : Addr → Prop) (a : Sx) (d : D) (r' : Ev) (Q : VK), Ok K T B a → f a.r = some (d, r') → (∀ v g' h', Ok K T B ⟨g', h', a.s, r'⟩ → Nxt T a ⟨g', h', a.s, r'⟩ → Dp K g' v d → Q v h') → t a.s a.h Q
def SO (K : PySem.W.Frag) (T : Addr → Prop) (t : TE) (f : FO) : Prop := ∀ (B : Addr → Prop) (a : Sx) (ds : List D) (r' : Ev) (Q : VK), Ok K T B a → f a.r = some (ds, r') → (∀ p vs g' h', Ok K T B ⟨g', h', a.s, r'⟩ → Nxt T a ⟨g', h', a.s, r'⟩ → a.h p = none → h' p = some (.lst vs) → g' p = none → ¬ Tied ⟨g', h', a.s, r'⟩ p → DpAll K g' vs ds → Q (.ref p) h') → t a.s a.h Q
def STt (K : PySem.W.Frag) (T : Addr → Prop) (t : TT) (f : FT) : Prop := ∀ (B : Addr → Prop) (a : Sx) (c : Bool) (r' : Ev) (Q : Bool → Hp → Prop), Ok K T B a → f a.r = some (c, r') → (∀ g' h', Ok K T B ⟨g', h', a.s, r'⟩ → Nxt T a ⟨g', h', a.s, r'⟩ → Q c h') → t a.s a.h Q
def SA (K : PySem.W.Frag) (T : Addr → Prop) (t : TA) (f : FO) : Prop := ∀ (B : Addr → Prop) (a : Sx) (ds : List D) (r' : Ev) (Q : List V → Hp → Prop), Ok K T B a → f a.r = some (ds, r') → (∀ vs g' h', Ok K T B ⟨g', h', a.s, r'⟩ → Nxt T a ⟨g', h', a.s, r'⟩ → DpAll K g' vs ds → Q vs h') → t a.s a.h Q
structure QB (X : Cx) (K : PySem.W.Frag) (T : Addr → Prop) (e : Expr) (t : TE) (f : FP) : Prop where
  k : X.K = K
  pe : PE X e t
  so : SB K T t f
structure QP (X : Cx) (K : PySem.W.Frag) (T : Addr → Prop) (e : Expr) (t : TE) (f : FP) : Prop where
  k : X.K = K
  pe : PE X e t
  so : SP K T t f
structure QH (X : Cx) (K : PySem.W.Frag) (T : Addr → Prop) (e : Expr) (t : TE) (f : FH) : Prop where
  k : X.K = K
  pe : PE X e t
  so : SH K T t f
structure QO (X : Cx) (K : PySem.W.Frag) (T : Addr → Prop) (e : Expr) (t : TE) (f : FO) : Prop where
  k : X.K = K
  pe : PE X e t
  so : SO K T t f
structure QT (X : Cx) (K : PySem.W.Frag) (T : Addr → Prop) (e : Expr) (t : TT) (f : FT) : Prop where
  k : X.K = K
  pt : PT X e t
  so : STt K T t f
structure QW (X : Cx) (K : PySem.W.Frag) (T : Addr → Prop) (e : Expr) (t : TT) (f : FT) : Prop where
  k : X.K = K
  pw : PW X e t
  so : STt K T t f
structure QA (X : Cx) (K : PySem.W.Frag) (T : Addr → Prop) (es : List Expr) (t : TA) (f : FO) : Prop where
  k : X.K = K
  pa : PA X es t
  so : SA K T t f
def up (f : FP) : FH := fun ρ => (f ρ).map fun d => (d, ρ)
def upO (f : FO) : FH := fun ρ => (f ρ).map fun p => (.list p.1, p.2)
section
variable {X : Cx} {K : PySem.W.Frag} {T : Addr → Prop} {e : Expr} {t : TE} {f : FP}
theorem QP.b (h : QP X K T e t f) : QB X K T e t f := ⟨h.k, h.pe, fun B a d Q o ef k => h.so B a d Q o ef fun v g' h' o' n x => k v g' h' o' n (.inl x)⟩
theorem QP.h (h : QP X K T e t f) : QH X K T e t (up f) := ⟨h.k, h.pe, fun B a d r' Q o ef k => by
  unfold up at ef
  cases e1 : f a.r with
  | none =>
    rw [e1] at ef
    cases ef
  | some z =>
    rw [e1] at ef
    cases ef
    exact h.so B a _ Q o e1 k⟩
theorem QO.h {f : FO} (h : QO X K T e t f) : QH X K T e t (upO f) := ⟨h.k, h.pe, fun B a d r' Q o ef k => by
  unfold upO at ef
  cases e1 : f a.r with
  | none =>
    rw [e1] at ef
    cases ef
  | some z =>
    rw [e1] at ef
    cases ef
    refine h.so B a _ _ Q o e1 fun p vs g' h' o' n hp e2 gp w x => ?_
    exact k _ _ _ (o'.rel e2 gp w) (n.rel hp gp) (.lst (SqL.of upd_same) (dpa_sub (Sub.new gp) x))⟩
end

/-! ### names, constants -/
def fVar (i : Nat) : FP := fun ρ => match ρ[i]? with | some (some (.sh d)) => some d | _ => none
def fBor (i : Nat) : FP := fun ρ => match ρ[i]? with | some (some (.sh d)) => some d | some (some (.ow _ ds)) => some (.list ds) | _ => none
def fRel (i : Nat) : FH := fun ρ => match ρ[i]? with | some (some (.sh d)) => some (d, ρ) | some (some (.ow true ds)) => some (.list ds, ρ.set i (some (.sh (.list ds)))) | _ => none
def fC (d : D) : FP := fun _ => some d
section
variable {X : Cx} {K : PySem.W.Frag} {T : Addr → Prop} {e : Expr} {i : Nat}
theorem qp_var (i : Nat) (h : PE X e (tVar i)) (hk : X.K = K := by rfl) : QP X K T e (tVar i) (fVar i) := ⟨hk, h, fun B a d Q o ef k => by
  unfold fVar at ef
  split at ef
  · rename_i d' e1
    cases ef
    obtain ⟨v, s, x⟩ := o.sh i d e1
    exact ⟨v, s, k v a.g a.h o .refl x⟩
  · cases ef⟩
theorem qb_var (i : Nat) (h : PE X e (tVar i)) (hk : X.K = K := by rfl) : QB X K T e (tVar i) (fBor i) := ⟨hk, h, fun B a d Q o ef k => by
  unfold fBor at ef
  split at ef
  · rename_i d' e1
    cases ef
    obtain ⟨v, s, x⟩ := o.sh i d e1
    exact ⟨v, s, k v a.g a.h o .refl (.inl x)⟩
  · rename_i b ds e1
    cases ef
    obtain ⟨p, vs, s, _⟩ := o.ow i b ds e1
    exact ⟨.ref p, s, k _ a.g a.h o .refl (.inr ⟨i, b, ds, e1, s, rfl⟩)⟩
  · cases ef⟩
theorem qh_rel (i : Nat) (h : PE X e (tVar i)) (hk : X.K = K := by rfl) : QH X K T e (tVar i) (fRel i) := ⟨hk, h, fun B a d r' Q o ef k => by
  unfold fRel at ef
  split at ef
  · rename_i d' e1
    cases ef
    obtain ⟨v, s, x⟩ := o.sh i d e1
    exact ⟨v, s, k v a.g a.h o .refl x⟩
  · rename_i ds e1
    cases ef
    obtain ⟨p, vs, s, hp, gp, _, x⟩ := o.ow i true ds e1
    exact ⟨.ref p, s, k _ _ _ (o.relv e1 s hp x) (Nxt.relv e1 s gp) (.lst (SqL.of upd_same) (dpa_sub (Sub.new gp) x))⟩
  · cases ef⟩
theorem qp_c {v : V} {d : D} (h : PE X e (tC v)) (x : ∀ g, Dp K g v d) (hk : X.K = K := by rfl) : QP X K T e (tC v) (fC d) := ⟨hk, h, fun B a d' Q o ef k => by
  cases ef
  exact k v a.g a.h o .refl (x _)⟩
theorem qp_int {z : Int} {j : Nat} {pos : Pos} (hk : X.K = K := by rfl) : QP X K T (.Constant (.int z) j pos) (tC (.int z)) (fC (.int z)) := qp_c pe_int (fun _ => .int z) hk
theorem qp_bl {z : Bool} {j : Nat} {pos : Pos} (hk : X.K = K := by rfl) : QP X K T (.Constant (.bool z) j pos) (tC (.bl z)) (fC (.bool z)) := qp_c pe_bl (fun _ => .bl z) hk
theorem qp_non {j : Nat} {pos : Pos} (hk : X.K = K := by rfl) : QP X K T (.Constant .none j pos) (tC .non) (fC .none) := qp_c pe_non (fun _ => .non) hk
theorem qp_str {z : Str} {j : Nat} {pos : Pos} (hk : X.K = K := by rfl) : QP X K T (.Constant (.str z) j pos) (tC (.str z)) (fC (.str z)) := qp_c pe_str (fun _ => .str z) hk
end

/-! ### two-place operations -/
def f2 (fo : D → D → Option D) (f g : FP) : FP := fun ρ => (f ρ).bind fun x => (g ρ).bind fun y => fo x y
def h2 (fo : D → D → Option D) (f g : FH) : FH := fun ρ => (f ρ).bind fun p => (g p.2).bind fun q => (fo p.1 q.1).map fun z => (z, q.2)
def OpS (K : PySem.W.Frag) (T : Addr → Prop) (r : R2) (fo : D → D → Option D) : Prop := ∀ (B : Addr → Prop) (a : Sx) (x y : V) (d e z : D) (Q : VK), Ok K T B a → RepB K a x d → RepB K a y e → fo d e = some z → (∀ v g' h', Ok K T B ⟨g', h', a.s, a.r⟩ → Nxt T a ⟨g', h', a.s, a.r⟩ → Dp K g' v z → Q v h') → r x y a.h Q
section
variable {X : Cx} {K : PySem.W.Frag} {T : Addr → Prop} {ea eb : Expr} {ta tb : TE} {r : R2} {fo : D → D → Option D} {pos : Pos}
theorem sp_op {f g : FP} (ho : OpS K T r fo) (ha : SB K T ta f) (hb : SB K T tb g) : SP K T (tOp r ta tb) (f2 fo f g) := fun B a z Q o ef k => by
  unfold f2 at ef
  cases e1 : f a.r with
  | none => rw [e1] at ef; cases ef
  | some x =>
    rw [e1] at ef
    cases e2 : g a.r with
    | none =>
      rw [Option.bind_some, e2] at ef
      cases ef
    | some y =>
      rw [Option.bind_some, e2, Option.bind_some] at ef
      refine ha B a x _ o e1 fun v g1 h1 o1 n1 r1 => ?_
      refine hb B ⟨g1, h1, a.s, a.r⟩ y _ o1 e2 fun u g2 h2 o2 n2 r2 => ?_
      refine ho B ⟨g2, h2, a.s, a.r⟩ v u x y z Q o2 (r1.nxt n2 rfl rfl) r2 ef fun w g3 h3 o3 n3 r3 => ?_
      exact k w g3 h3 o3 (n1.trans (n2.trans n3)) r3
theorem sh_op {f g : FH} (ho : OpS K T r fo) (ha : SH K T ta f) (hb : SH K T tb g) : SH K T (tOp r ta tb) (h2 fo f g) := fun B a z r' Q o ef k => by
  unfold h2 at ef
  cases e1 : f a.r with
  | none => rw [e1] at ef; cases ef
  | some p =>
    obtain ⟨x, r1⟩ := p
    rw [e1, Option.bind_some] at ef
    cases e2 : g r1 with
    | none =>
      rw [e2] at ef
      cases ef
    | some q =>
      obtain ⟨y, r2⟩ := q
      rw [e2, Option.bind_some] at ef
      cases e3 : fo x y with
      | none =>
        rw [e3] at ef
        cases ef
      | some z' =>
        rw [e3] at ef
        cases ef
        refine ha B a x _ _ o e1 fun v g1 h1 o1 n1 x1 => ?_
        refine hb B ⟨g1, h1, a.s, r1⟩ y _ _ o1 e2 fun u g2 h2 o2 n2 x2 => ?_
        refine ho B ⟨g2, h2, a.s, r2⟩ v u x y _ Q o2 (.inl (dp_sub n2.le x1)) (.inl x2) e3 fun w g3 h3 o3 n3 x3 => ?_
        exact k w g3 h3 o3 (n1.trans (n2.trans n3)) x3
theorem qp_op {op : Operator} {f g : FP} (hr : OpR X (binaryOp op) r) (ho : OpS K T r fo) (ha : QB X K T ea ta f) (hb : QB X K T eb tb g) : QP X K T (.BinOp ea op eb pos) (tOp r ta tb) (f2 fo f g) := ⟨ha.k, pe_op hr ha.pe hb.pe, sp_op ho ha.so hb.so⟩
theorem qh_op {op : Operator} {f g : FH} (hr : OpR X (binaryOp op) r) (ho : OpS K T r fo) (ha : QH X K T ea ta f) (hb : QH X K T eb tb g) : QH X K T (.BinOp ea op eb pos) (tOp r ta tb) (h2 fo f g) := ⟨ha.k, pe_op hr ha.pe hb.pe, sh_op ho ha.so hb.so⟩
theorem qp_cm {op : CmpOp} {f g : FP} (hr : OpR X (compareOp op) r) (ho : OpS K T r fo) (ha : QB X K T ea ta f) (hb : QB X K T eb tb g) (hm : behindInMarks op eb = false) : QP X K T (.Compare ea [op] [eb] pos) (tOp r ta tb) (f2 fo f g) := ⟨ha.k, pe_cmpR hr ha.pe hb.pe hm, sp_op ho ha.so hb.so⟩
theorem qh_cm {op : CmpOp} {f g : FH} (hr : OpR X (compareOp op) r) (ho : OpS K T r fo) (ha : QH X K T ea ta f) (hb : QH X K T eb tb g) (hm : behindInMarks op eb = false) : QH X K T (.Compare ea [op] [eb] pos) (tOp r ta tb) (h2 fo f g) := ⟨ha.k, pe_cmpR hr ha.pe hb.pe hm, sh_op ho ha.so hb.so⟩
end
def dII (g : Int → Int → D) : D → D → Option D
  | .int i, .int j => some (g i j)
  | _, _ => none
def dIC (C : Int → Int → Bool) (g : Int → Int → D) : D → D → Option D
  | .int i, .int j => if C i j = true then some (g i j) else none
  | _, _ => none
section
variable {K : PySem.W.Frag} {T : Addr → Prop}
theorem os_ii {g : Int → Int → D} {gv : Int → Int → V} (x : ∀ i j G, Dp K G (gv i j) (g i j)) : OpS K T (rI0 gv) (dII g) := fun B a v u d e z Q o rv ru ef k => by
  unfold dII at ef
  split at ef
  · cases ef
    cases rv.int
    cases ru.int
    exact ⟨_, _, rfl, rfl, k _ a.g a.h o .refl (x _ _ _)⟩
  · cases ef
theorem os_ic {C : Int → Int → Bool} {CP : Int → Int → Prop} {g : Int → Int → D} {gv : Int → Int → V} (hc : ∀ i j, C i j = true → CP i j) (x : ∀ i j G, Dp K G (gv i j) (g i j)) : OpS K T (rI CP gv) (dIC C g) := fun B a v u d e z Q o rv ru ef k => by
  unfold dIC at ef
  split at ef
  · split at ef
    · rename_i hC
      cases ef
      cases rv.int
      cases ru.int
      exact ⟨_, _, rfl, rfl, hc _ _ hC, k _ a.g a.h o .refl (x _ _ _)⟩
    · cases ef
  · cases ef
end
def dAdd := dII fun i j => .int (i + j)
def dSub := dII fun i j => .int (i - j)
def cMul (i j : Int) : Bool := (decide (-(2 ^ 64) < i) && decide (i < 2 ^ 64)) || (decide (-(2 ^ 64) < j) && decide (j < 2 ^ 64))
def dMul := dIC cMul fun i j => .int (i * j)
def cDiv (i j : Int) : Bool := decide (0 < j) && decide (j < 1073741824)
def dDiv := dIC cDiv fun i j => .int (i / j)
def cMod (i j : Int) : Bool := decide (0 < j)
def dMod := dIC cMod fun i j => .int (i % j)
def cPow (i j : Int) : Bool := decide (0 ≤ j) && decide (j ≤ 1000000) && decide (i.natAbs < 2 ^ 64)
def dPow := dIC cPow fun i j => .int (i ^ j.toNat)
def dLt := dII fun i j => .bool (decide (i < j))
def dLe := dII fun i j => .bool (decide (i ≤ j))
def dGt := dII fun i j => .bool (decide (j < i))
def dGe := dII fun i j => .bool (decide (j ≤ i))
def dEq (d e : D) : Option D := if (SeqAt.shaped d && SeqAt.shaped e) = true then some (.bool (PyData.eqv d e)) else none
def dNe (d e : D) : Option D := if (SeqAt.shaped d && SeqAt.shaped e) = true then some (.bool (!PyData.eqv d e)) else none
def isNon : D → Bool
  | .none => true
  | _ => false
theorem RepB.non_iff {K : PySem.W.Frag} {T B : Addr → Prop} {a : Sx} {v : V} {d : D} (o : Ok K T B a) (h : RepB K a v d) : decide (v = .non) = isNon d := by
  cases h.dp o <;> rfl
def dIsN (d e : D) : Option D := if isNon e = true then some (.bool (isNon d)) else none
def dNotN (d e : D) : Option D := if isNon e = true then some (.bool (!isNon d)) else none
def rInG (K : PySem.W.Frag) (b : Bool) : R2 := fun x y H Q => ∃ d ds, Dp K H x d ∧ ((Dp K H y (.list ds) ∧ SeqAt.shaped (.list ds) = true) ∨ (Dp K H y (.tuple ds) ∧ SeqAt.shaped (.tuple ds) = true)) ∧ SeqAt.shaped d = true ∧ Q (.bl (if b = true then !ds.any fun z => PyData.eqv z d else ds.any fun z => PyData.eqv z d)) H
section
variable {X : Cx}
theorem op_inG (hu : X.A.units + 65 < cLine) : OpR X (compareOp .In) (rInG X.K false) := by
  intro pins s σ H x y v u Q I rx ry h
  obtain ⟨d, ds, hd, he, sd, q⟩ := h
  obtain ⟨as, r1⟩ := Dp.reads I d x v hd rx
  rcases he with ⟨he, se⟩ | ⟨he, se⟩
  · obtain ⟨bs, r2⟩ := Dp.reads I (.list ds) y u he ry
    exact SeqAt.in_list_reads r2 r1 (SeqAt.canLay_of_shaped se) (SeqAt.canLay_of_shaped sd) (room_in_shaped sd hu) ⟨.bl _, H, I, rfl, q⟩
  · obtain ⟨bs, r2⟩ := Dp.reads I (.tuple ds) y u he ry
    exact SeqAt.in_tuple_reads r2 r1 (SeqAt.canLay_of_shaped se) (SeqAt.canLay_of_shaped sd) (room_in_shaped sd hu) ⟨.bl _, H, I, rfl, q⟩
theorem op_notInG (hu : X.A.units + 65 < cLine) : OpR X (compareOp .NotIn) (rInG X.K true) := by
  intro pins s σ H x y v u Q I rx ry h
  obtain ⟨d, ds, hd, he, sd, q⟩ := h
  obtain ⟨as, r1⟩ := Dp.reads I d x v hd rx
  rcases he with ⟨he, se⟩ | ⟨he, se⟩
  · obtain ⟨bs, r2⟩ := Dp.reads I (.list ds) y u he ry
    exact SeqAt.notIn_list_reads r2 r1 (SeqAt.canLay_of_shaped se) (SeqAt.canLay_of_shaped sd) (room_in_shaped sd hu) ⟨.bl _, H, I, rfl, q⟩
  · obtain ⟨bs, r2⟩ := Dp.reads I (.tuple ds) y u he ry
    exact SeqAt.notIn_tuple_reads r2 r1 (SeqAt.canLay_of_shaped se) (SeqAt.canLay_of_shaped sd) (room_in_shaped sd hu) ⟨.bl _, H, I, rfl, q⟩
end
def dIn (d e : D) : Option D := match e with
  | .list ds => if (SeqAt.shaped d && SeqAt.shaped (.list ds)) = true then some (.bool (ds.any fun z => PyData.eqv z d)) else none
  | .tuple ds => if (SeqAt.shaped d && SeqAt.shaped (.tuple ds)) = true then some (.bool (ds.any fun z => PyData.eqv z d)) else none
  | _ => none
def dNotIn (d e : D) : Option D := match e with
  | .list ds => if (SeqAt.shaped d && SeqAt.shaped (.list ds)) = true then some (.bool (!ds.any fun z => PyData.eqv z d)) else none
  | .tuple ds => if (SeqAt.shaped d && SeqAt.shaped (.tuple ds)) = true then some (.bool (!ds.any fun z => PyData.eqv z d)) else none
  | _ => none
section
variable {K : PySem.W.Frag} {T : Addr → Prop}
theorem os_add : OpS K T (rI0 fun i j => .int (i + j)) dAdd := os_ii fun _ _ _ => .int _
theorem os_sub : OpS K T (rI0 fun i j => .int (i - j)) dSub := os_ii fun _ _ _ => .int _
theorem os_mul : OpS K T (rI CMul fun i j => .int (i * j)) dMul := os_ic (fun i j h => by
  unfold cMul at h
  simp only [Bool.or_eq_true, Bool.and_eq_true, decide_eq_true_eq] at h
  exact h) fun _ _ _ => .int _
theorem os_div : OpS K T (rI CDiv fun i j => .int (i / j)) dDiv := os_ic (fun i j h => by
  unfold cDiv at h
  simp only [Bool.and_eq_true, decide_eq_true_eq] at h
  exact h) fun _ _ _ => .int _
theorem os_mod : OpS K T (rI (fun _ j => 0 < j) fun i j => .int (i % j)) dMod := os_ic (fun i j h => of_decide_eq_true h) fun _ _ _ => .int _
theorem os_pow : OpS K T (rI CPow fun i j => .int (i ^ j.toNat)) dPow := os_ic (fun i j h => by
  unfold cPow at h
  simp only [Bool.and_eq_true, decide_eq_true_eq] at h
  exact ⟨h.1.1, h.1.2, h.2⟩) fun _ _ _ => .int _
theorem os_lt : OpS K T (rI0 fun i j => .bl (decide (i < j))) dLt := os_ii fun _ _ _ => .bl _
theorem os_le : OpS K T (rI0 fun i j => .bl (decide (i ≤ j))) dLe := os_ii fun _ _ _ => .bl _
theorem os_gt : OpS K T (rI0 fun i j => .bl (decide (j < i))) dGt := os_ii fun _ _ _ => .bl _
theorem os_ge : OpS K T (rI0 fun i j => .bl (decide (j ≤ i))) dGe := os_ii fun _ _ _ => .bl _
theorem os_eq : OpS K T (rEqD K) dEq := fun B a v u d e z Q o rv ru ef k => by
  unfold dEq at ef
  split at ef
  · rename_i h
    rw [Bool.and_eq_true] at h
    cases ef
    exact ⟨d, e, rv.dp o, ru.dp o, h.1, h.2, k _ a.g a.h o .refl (.bl _)⟩
  · cases ef
theorem os_ne : OpS K T (rNeD K) dNe := fun B a v u d e z Q o rv ru ef k => by
  unfold dNe at ef
  split at ef
  · rename_i h
    rw [Bool.and_eq_true] at h
    cases ef
    exact ⟨d, e, rv.dp o, ru.dp o, h.1, h.2, k _ a.g a.h o .refl (.bl _)⟩
  · cases ef
theorem os_isN : OpS K T (fun x y H Q => y = .non ∧ Q (.bl (decide (x = .non))) H) dIsN := fun B a v u d e z Q o rv ru ef k => by
  unfold dIsN at ef
  split at ef
  · rename_i h
    cases e <;> first | cases h | skip
    cases ef
    refine ⟨ru.none_, ?_⟩
    have e2 : decide (v = .non) = isNon d := by
      exact rv.non_iff o
    rw [e2]
    exact k _ a.g a.h o .refl (.bl _)
  · cases ef
theorem os_notN : OpS K T (fun x y H Q => y = .non ∧ Q (.bl (!decide (x = .non))) H) dNotN := fun B a v u d e z Q o rv ru ef k => by
  unfold dNotN at ef
  split at ef
  · rename_i h
    cases e <;> first | cases h | skip
    cases ef
    refine ⟨ru.none_, ?_⟩
    have e2 : decide (v = .non) = isNon d := by
      exact rv.non_iff o
    rw [e2]
    exact k _ a.g a.h o .refl (.bl _)
  · cases ef
theorem os_in : OpS K T (rInG K false) dIn := fun B a v u d e z Q o rv ru ef k => by
  unfold dIn at ef
  split at ef
  · split at ef
    · rename_i h
      rw [Bool.and_eq_true] at h
      cases ef
      exact ⟨d, _, rv.dp o, .inl ⟨ru.dp o, h.2⟩, h.1, k _ a.g a.h o .refl (.bl _)⟩
    · cases ef
  · split at ef
    · rename_i h
      rw [Bool.and_eq_true] at h
      cases ef
      exact ⟨d, _, rv.dp o, .inr ⟨ru.dp o, h.2⟩, h.1, k _ a.g a.h o .refl (.bl _)⟩
    · cases ef
  · cases ef
theorem os_notIn : OpS K T (rInG K true) dNotIn := fun B a v u d e z Q o rv ru ef k => by
  unfold dNotIn at ef
  split at ef
  · split at ef
    · rename_i h
      rw [Bool.and_eq_true] at h
      cases ef
      exact ⟨d, _, rv.dp o, .inl ⟨ru.dp o, h.2⟩, h.1, k _ a.g a.h o .refl (.bl _)⟩
    · cases ef
  · split at ef
    · rename_i h
      rw [Bool.and_eq_true] at h
      cases ef
      exact ⟨d, _, rv.dp o, .inr ⟨ru.dp o, h.2⟩, h.1, k _ a.g a.h o .refl (.bl _)⟩
    · cases ef
  · cases ef
/-- subscripts -/
def dIx (d e : D) : Option D := match e with
  | .int i => (seqD d).bind fun ds => atI ds i
  | _ => none
theorem os_ix : OpS K T (rIx K) dIx := fun B a v u d e z Q o rv ru ef k => by
  unfold dIx at ef
  split at ef
  · rename_i i
    cases e1 : seqD d with
    | none => rw [e1] at ef; cases ef
    | some ds =>
      rw [e1, Option.bind_some] at ef
      obtain ⟨p, vs, ev, hs, t⟩ := rv.seq o e1
      cases ru.int
      have at_ : ∃ w, atI vs i = some w ∧ Dp K a.g w z := by
        unfold atI at ef ⊢
        cases e2 : ixN ds.length i with
        | none => rw [e2] at ef; cases ef
        | some j =>
          rw [e2, Option.bind_some] at ef
          rw [dpa_len t, e2, Option.bind_some]
          exact dpa_get t ef
      obtain ⟨w, ew, xw⟩ := at_
      have q := k w a.g a.h o .refl xw
      rcases hs with hs | hs
      · exact .inl ⟨p, vs, i, w, ev, rfl, hs, ew, q⟩
      · exact .inr (.inl ⟨p, vs, i, w, ev, rfl, hs, ew, q⟩)
  · cases ef
end
section
variable {X : Cx} {K : PySem.W.Frag} {T : Addr → Prop} {ea eb : Expr} {ta tb : TE} {pos : Pos}
theorem qp_add {f g : FP} (ha : QB X K T ea ta f) (hb : QB X K T eb tb g) : QP X K T (.BinOp ea .Add eb pos) (tOp (rI0 fun i j => .int (i + j)) ta tb) (f2 dAdd f g) := qp_op op_add os_add ha hb
theorem qp_sub {f g : FP} (ha : QB X K T ea ta f) (hb : QB X K T eb tb g) : QP X K T (.BinOp ea .Sub eb pos) (tOp (rI0 fun i j => .int (i - j)) ta tb) (f2 dSub f g) := qp_op op_sub os_sub ha hb
theorem qp_mul {f g : FP} (ha : QB X K T ea ta f) (hb : QB X K T eb tb g) : QP X K T (.BinOp ea .Mult eb pos) (tOp (rI CMul fun i j => .int (i * j)) ta tb) (f2 dMul f g) := qp_op op_mul os_mul ha hb
theorem qp_div {f g : FP} (ha : QB X K T ea ta f) (hb : QB X K T eb tb g) : QP X K T (.BinOp ea .FloorDiv eb pos) (tOp (rI CDiv fun i j => .int (i / j)) ta tb) (f2 dDiv f g) := qp_op op_fdiv os_div ha hb
theorem qp_mod {f g : FP} (ha : QB X K T ea ta f) (hb : QB X K T eb tb g) : QP X K T (.BinOp ea .Mod eb pos) (tOp (rI (fun _ j => 0 < j) fun i j => .int (i % j)) ta tb) (f2 dMod f g) := qp_op op_mod os_mod ha hb
theorem qp_pow {f g : FP} (ha : QB X K T ea ta f) (hb : QB X K T eb tb g) : QP X K T (.BinOp ea .Pow eb pos) (tOp (rI CPow fun i j => .int (i ^ j.toNat)) ta tb) (f2 dPow f g) := qp_op op_pow os_pow ha hb
theorem qh_add {f g : FH} (ha : QH X K T ea ta f) (hb : QH X K T eb tb g) : QH X K T (.BinOp ea .Add eb pos) (tOp (rI0 fun i j => .int (i + j)) ta tb) (h2 dAdd f g) := qh_op op_add os_add ha hb
theorem qh_sub {f g : FH} (ha : QH X K T ea ta f) (hb : QH X K T eb tb g) : QH X K T (.BinOp ea .Sub eb pos) (tOp (rI0 fun i j => .int (i - j)) ta tb) (h2 dSub f g) := qh_op op_sub os_sub ha hb
theorem qh_mul {f g : FH} (ha : QH X K T ea ta f) (hb : QH X K T eb tb g) : QH X K T (.BinOp ea .Mult eb pos) (tOp (rI CMul fun i j => .int (i * j)) ta tb) (h2 dMul f g) := qh_op op_mul os_mul ha hb
theorem qh_div {f g : FH} (ha : QH X K T ea ta f) (hb : QH X K T eb tb g) : QH X K T (.BinOp ea .FloorDiv eb pos) (tOp (rI CDiv fun i j => .int (i / j)) ta tb) (h2 dDiv f g) := qh_op op_fdiv os_div ha hb
theorem qh_mod {f g : FH} (ha : QH X K T ea ta f) (hb : QH X K T eb tb g) : QH X K T (.BinOp ea .Mod eb pos) (tOp (rI (fun _ j => 0 < j) fun i j => .int (i % j)) ta tb) (h2 dMod f g) := qh_op op_mod os_mod ha hb
theorem qp_lt {f g : FP} (ha : QB X K T ea ta f) (hb : QB X K T eb tb g) : QP X K T (.Compare ea [.Lt] [eb] pos) (tOp (rI0 fun i j => .bl (decide (i < j))) ta tb) (f2 dLt f g) := qp_cm op_lt os_lt ha hb (nomark _)
theorem qp_le {f g : FP} (ha : QB X K T ea ta f) (hb : QB X K T eb tb g) : QP X K T (.Compare ea [.LtE] [eb] pos) (tOp (rI0 fun i j => .bl (decide (i ≤ j))) ta tb) (f2 dLe f g) := qp_cm op_le os_le ha hb (nomark _)
theorem qp_gt {f g : FP} (ha : QB X K T ea ta f) (hb : QB X K T eb tb g) : QP X K T (.Compare ea [.Gt] [eb] pos) (tOp (rI0 fun i j => .bl (decide (j < i))) ta tb) (f2 dGt f g) := qp_cm op_gt os_gt ha hb (nomark _)
theorem qp_ge {f g : FP} (ha : QB X K T ea ta f) (hb : QB X K T eb tb g) : QP X K T (.Compare ea [.GtE] [eb] pos) (tOp (rI0 fun i j => .bl (decide (j ≤ i))) ta tb) (f2 dGe f g) := qp_cm op_ge os_ge ha hb (nomark _)
theorem qh_lt {f g : FH} (ha : QH X K T ea ta f) (hb : QH X K T eb tb g) : QH X K T (.Compare ea [.Lt] [eb] pos) (tOp (rI0 fun i j => .bl (decide (i < j))) ta tb) (h2 dLt f g) := qh_cm op_lt os_lt ha hb (nomark _)
theorem qh_le {f g : FH} (ha : QH X K T ea ta f) (hb : QH X K T eb tb g) : QH X K T (.Compare ea [.LtE] [eb] pos) (tOp (rI0 fun i j => .bl (decide (i ≤ j))) ta tb) (h2 dLe f g) := qh_cm op_le os_le ha hb (nomark _)
theorem qh_gt {f g : FH} (ha : QH X K T ea ta f) (hb : QH X K T eb tb g) : QH X K T (.Compare ea [.Gt] [eb] pos) (tOp (rI0 fun i j => .bl (decide (j < i))) ta tb) (h2 dGt f g) := qh_cm op_gt os_gt ha hb (nomark _)
theorem qh_ge {f g : FH} (ha : QH X K T ea ta f) (hb : QH X K T eb tb g) : QH X K T (.Compare ea [.GtE] [eb] pos) (tOp (rI0 fun i j => .bl (decide (j ≤ i))) ta tb) (h2 dGe f g) := qh_cm op_ge os_ge ha hb (nomark _)
theorem qp_eq {f g : FP} (hu : X.A.units + 64 < cLine) (ha : QB X K T ea ta f) (hb : QB X K T eb tb g) : QP X K T (.Compare ea [.Eq] [eb] pos) (tOp (rEqD K) ta tb) (f2 dEq f g) := qp_cm (ha.k ▸ op_eqD hu) os_eq ha hb (nomark _)
theorem qp_ne {f g : FP} (hu : X.A.units + 64 < cLine) (ha : QB X K T ea ta f) (hb : QB X K T eb tb g) : QP X K T (.Compare ea [.NotEq] [eb] pos) (tOp (rNeD K) ta tb) (f2 dNe f g) := qp_cm (ha.k ▸ op_neD hu) os_ne ha hb (nomark _)
theorem qh_eq {f g : FH} (hu : X.A.units + 64 < cLine) (ha : QH X K T ea ta f) (hb : QH X K T eb tb g) : QH X K T (.Compare ea [.Eq] [eb] pos) (tOp (rEqD K) ta tb) (h2 dEq f g) := qh_cm (ha.k ▸ op_eqD hu) os_eq ha hb (nomark _)
theorem qh_ne {f g : FH} (hu : X.A.units + 64 < cLine) (ha : QH X K T ea ta f) (hb : QH X K T eb tb g) : QH X K T (.Compare ea [.NotEq] [eb] pos) (tOp (rNeD K) ta tb) (h2 dNe f g) := qh_cm (ha.k ▸ op_neD hu) os_ne ha hb (nomark _)
theorem qp_isN {f g : FP} (ha : QB X K T ea ta f) (hb : QB X K T eb tb g) : QP X K T (.Compare ea [.Is] [eb] pos) (tOp (fun x y H Q => y = .non ∧ Q (.bl (decide (x = .non))) H) ta tb) (f2 dIsN f g) := qp_cm op_isN os_isN ha hb (nomark _)
theorem qp_notN {f g : FP} (ha : QB X K T ea ta f) (hb : QB X K T eb tb g) : QP X K T (.Compare ea [.IsNot] [eb] pos) (tOp (fun x y H Q => y = .non ∧ Q (.bl (!decide (x = .non))) H) ta tb) (f2 dNotN f g) := qp_cm op_notN os_notN ha hb (nomark _)
theorem qh_isN {f g : FH} (ha : QH X K T ea ta f) (hb : QH X K T eb tb g) : QH X K T (.Compare ea [.Is] [eb] pos) (tOp (fun x y H Q => y = .non ∧ Q (.bl (decide (x = .non))) H) ta tb) (h2 dIsN f g) := qh_cm op_isN os_isN ha hb (nomark _)
theorem qh_notN {f g : FH} (ha : QH X K T ea ta f) (hb : QH X K T eb tb g) : QH X K T (.Compare ea [.IsNot] [eb] pos) (tOp (fun x y H Q => y = .non ∧ Q (.bl (!decide (x = .non))) H) ta tb) (h2 dNotN f g) := qh_cm op_notN os_notN ha hb (nomark _)
theorem qp_in {f g : FP} (hu : X.A.units + 65 < cLine) (ha : QB X K T ea ta f) (hb : QB X K T eb tb g) (hm : behindInMarks .In eb = false := by with_unfolding_all rfl) : QP X K T (.Compare ea [.In] [eb] pos) (tOp (rInG K false) ta tb) (f2 dIn f g) := qp_cm (ha.k ▸ op_inG hu) os_in ha hb hm
theorem qp_notIn {f g : FP} (hu : X.A.units + 65 < cLine) (ha : QB X K T ea ta f) (hb : QB X K T eb tb g) (hm : behindInMarks .NotIn eb = false := by with_unfolding_all rfl) : QP X K T (.Compare ea [.NotIn] [eb] pos) (tOp (rInG K true) ta tb) (f2 dNotIn f g) := qp_cm (ha.k ▸ op_notInG hu) os_notIn ha hb hm
theorem qp_ix {f g : FP} (ha : QB X K T ea ta f) (hb : QB X K T eb tb g) (hs : PlainIx eb) : QP X K T (.Subscript ea eb pos) (tOp (rIx K) ta tb) (f2 dIx f g) := ⟨ha.k, pe_ix (ha.k ▸ ix_seq) ha.pe hb.pe hs, sp_op os_ix ha.so hb.so⟩
theorem qh_ix {f g : FH} (ha : QH X K T ea ta f) (hb : QH X K T eb tb g) (hs : PlainIx eb) : QH X K T (.Subscript ea eb pos) (tOp (rIx K) ta tb) (h2 dIx f g) := ⟨ha.k, pe_ix (ha.k ▸ ix_seq) ha.pe hb.pe hs, sh_op os_ix ha.so hb.so⟩
/-- -x -/
def fNeg (f : FP) : FP := fun ρ => (f ρ).bind fun d => match d with | .int i => some (.int (-i)) | _ => none
theorem qp_neg {f : FP} (ha : QB X K T ea ta f) : QP X K T (.UnaryOp .USub ea pos) (tUn (rU fun i => .int (-i)) ta) (fNeg f) := ⟨ha.k, pe_un un_neg ha.pe, fun B a d Q o ef k => by
  unfold fNeg at ef
  cases e1 : f a.r with
  | none => rw [e1] at ef; cases ef
  | some x =>
    rw [e1, Option.bind_some] at ef
    refine ha.so B a x _ o e1 fun v g1 h1 o1 n1 r1 => ?_
    cases x with
    | int i =>
      cases ef
      cases r1.int
      exact ⟨i, rfl, k _ g1 h1 o1 n1 (.int _)⟩
    | _ => cases ef⟩
end

/-! ### tests, and, or, not, if -/
def fTst (f : FH) : FT := fun ρ => (f ρ).bind fun p => match p.1 with | .bool c => some (c, p.2) | _ => none
def fNot (f : FT) : FT := fun ρ => (f ρ).map fun p => (!p.1, p.2)
def fAnd (f g : FT) : FT := fun ρ => (f ρ).bind fun p => if p.1 = true then g p.2 else some (false, p.2)
def fOr (f g : FT) : FT := fun ρ => (f ρ).bind fun p => if p.1 = true then some (true, p.2) else g p.2
def fOf (f : FT) : FH := fun ρ => (f ρ).map fun p => (.bool p.1, p.2)
def fIf (c : FT) (f g : FH) : FH := fun ρ => (c ρ).bind fun p => if p.1 = true then f p.2 else g p.2
def fIfO (c : FT) (f g : FO) : FO := fun ρ => (c ρ).bind fun p => if p.1 = true then f p.2 else g p.2
section
variable {X : Cx} {K : PySem.W.Frag} {T : Addr → Prop} {ea eb ec : Expr} {ta tb : TE} {ca cb : TT} {pos : Pos} {rest : List Expr}
theorem st_tst {f : FH} (ha : SH K T ta f) : STt K T (fun σ H Q => ta σ H fun x H' => ∃ k, x = .bl k ∧ Q k H') (fTst f) := fun B a c r' Q o ef k => by
  unfold fTst at ef
  cases e1 : f a.r with
  | none => rw [e1] at ef; cases ef
  | some p =>
    obtain ⟨x, r1⟩ := p
    rw [e1, Option.bind_some] at ef
    cases x with
    | bool b =>
      cases ef
      refine ha B a _ _ _ o e1 fun v g1 h1 o1 n1 x1 => ?_
      cases x1
      exact ⟨_, rfl, k _ _ o1 n1⟩
    | _ => cases ef
theorem qt_val {f : FH} (ha : QH X K T ea ta f) (he : ∀ whole, isTrue ea X.env whole = (do let v ← whole; standAt ea.pos; holding [v] (truthy v)) := by intro _; rfl) : QT X K T ea (tB ta) (fTst f) := ⟨ha.k, pt_val ha.pe he, st_tst ha.so⟩
/-- a comparison as a test: of the rule's own reading -/
theorem qt_cm {op : CmpOp} {r : R2} {f : FH} (h : QH X K T (.Compare ea [op] [eb] pos) (tOp r ta tb) f) (hr : OpR X (compareOp op) r) (ha : PE X ea ta) (hb : PE X eb tb) (hm : behindInMarks op eb = false) : QT X K T (.Compare ea [op] [eb] pos) (tTest (tOp r ta tb)) (fTst f) := ⟨h.k, pt_cmpR hr ha hb hm, st_tst h.so⟩
theorem qt_not {f : FT} (h : QT X K T ea ca f) : QT X K T (.UnaryOp .Not ea pos) (tNot ca) (fNot f) := ⟨h.k, pt_not h.pt, fun B a c r' Q o ef k => by
  unfold fNot at ef
  cases e1 : f a.r with
  | none => rw [e1] at ef; cases ef
  | some p =>
    rw [e1] at ef
    cases ef
    exact h.so B a p.1 p.2 _ o e1 fun g1 h1 o1 n1 => k g1 h1 o1 n1⟩
theorem st_and {f g : FT} (ha : STt K T ca f) (hb : STt K T cb g) : STt K T (tAnd ca cb) (fAnd f g) := fun B a c r' Q o ef k => by
  unfold fAnd at ef
  cases e1 : f a.r with
  | none => rw [e1] at ef; cases ef
  | some p =>
    obtain ⟨x, r1⟩ := p
    rw [e1, Option.bind_some] at ef
    refine ha B a x r1 _ o e1 fun g1 h1 o1 n1 => ?_
    cases x with
    | true =>
      rw [if_pos rfl] at ef ⊢
      exact hb B ⟨g1, h1, a.s, r1⟩ c r' Q o1 ef fun g2 h2 o2 n2 => k g2 h2 o2 (n1.trans n2)
    | false =>
      rw [if_neg Bool.false_ne_true] at ef ⊢
      cases ef
      exact k g1 h1 o1 n1
theorem st_or {f g : FT} (ha : STt K T ca f) (hb : STt K T cb g) : STt K T (tOr ca cb) (fOr f g) := fun B a c r' Q o ef k => by
  unfold fOr at ef
  cases e1 : f a.r with
  | none => rw [e1] at ef; cases ef
  | some p =>
    obtain ⟨x, r1⟩ := p
    rw [e1, Option.bind_some] at ef
    refine ha B a x r1 _ o e1 fun g1 h1 o1 n1 => ?_
    cases x with
    | true =>
      rw [if_pos rfl] at ef ⊢
      cases ef
      exact k g1 h1 o1 n1
    | false =>
      rw [if_neg Bool.false_ne_true] at ef ⊢
      exact hb B ⟨g1, h1, a.s, r1⟩ c r' Q o1 ef fun g2 h2 o2 n2 => k g2 h2 o2 (n1.trans n2)
theorem qw_and1 {f : FT} (h : QT X K T ea ca f) : QW X K T (.BoolOp .And [ea] pos) ca f := ⟨h.k, pw_and1 h.pt, h.so⟩
theorem qw_or1 {f : FT} (h : QT X K T ea ca f) : QW X K T (.BoolOp .Or [ea] pos) ca f := ⟨h.k, pw_or1 h.pt, h.so⟩
theorem qw_and {f g : FT} (ha : QT X K T ea ca f) (hb : QW X K T (.BoolOp .And (eb :: rest) pos) cb g) : QW X K T (.BoolOp .And (ea :: eb :: rest) pos) (tAnd ca cb) (fAnd f g) := ⟨ha.k, pw_and ha.pt hb.pw, st_and ha.so hb.so⟩
theorem qw_or {f g : FT} (ha : QT X K T ea ca f) (hb : QW X K T (.BoolOp .Or (eb :: rest) pos) cb g) : QW X K T (.BoolOp .Or (ea :: eb :: rest) pos) (tOr ca cb) (fOr f g) := ⟨ha.k, pw_or ha.pt hb.pw, st_or ha.so hb.so⟩
theorem QW.t {f : FT} (h : QW X K T ea ca f) : QT X K T ea ca f := ⟨h.k, h.pw.pt, h.so⟩
/-- and, or, not of bools as values -/
def vAnd (f g : FH) : FH := fun ρ => (f ρ).bind fun p => match p.1 with | .bool true => g p.2 | .bool false => some (.bool false, p.2) | _ => none
def vOr (f g : FH) : FH := fun ρ => (f ρ).bind fun p => match p.1 with | .bool true => some (.bool true, p.2) | .bool false => g p.2 | _ => none
def vNot (f : FH) : FH := fun ρ => (f ρ).bind fun p => match p.1 with | .bool c => some (.bool (!c), p.2) | _ => none
theorem qh_one {op : BoolOp} {f : FH} (h : QH X K T ea ta f) : QH X K T (.BoolOp op [ea] pos) ta f := ⟨h.k, pe_one h.pe, h.so⟩
theorem qh_and {f g : FH} (ha : QH X K T ea ta f) (hb : QH X K T (.BoolOp .And (eb :: rest) pos) tb g) : QH X K T (.BoolOp .And (ea :: eb :: rest) pos) (tAndV ta tb) (vAnd f g) := ⟨ha.k, pe_and ha.pe hb.pe, fun B a d r' Q o ef k => by
  unfold vAnd at ef
  cases e1 : f a.r with
  | none => rw [e1] at ef; cases ef
  | some p =>
    obtain ⟨x, r1⟩ := p
    rw [e1, Option.bind_some] at ef
    refine ha.so B a x r1 _ o e1 fun v g1 h1 o1 n1 x1 => ?_
    cases x with
    | bool b =>
      cases x1
      refine ⟨b, rfl, ?_⟩
      cases b with
      | true =>
        rw [if_pos rfl]
        exact hb.so B ⟨g1, h1, a.s, r1⟩ d r' Q o1 ef fun w g2 h2 o2 n2 x2 => k w g2 h2 o2 (n1.trans n2) x2
      | false =>
        rw [if_neg Bool.false_ne_true]
        cases ef
        exact k _ g1 h1 o1 n1 (.bl _)
    | _ => cases ef⟩
theorem qh_or {f g : FH} (ha : QH X K T ea ta f) (hb : QH X K T (.BoolOp .Or (eb :: rest) pos) tb g) : QH X K T (.BoolOp .Or (ea :: eb :: rest) pos) (tOrV ta tb) (vOr f g) := ⟨ha.k, pe_or ha.pe hb.pe, fun B a d r' Q o ef k => by
  unfold vOr at ef
  cases e1 : f a.r with
  | none => rw [e1] at ef; cases ef
  | some p =>
    obtain ⟨x, r1⟩ := p
    rw [e1, Option.bind_some] at ef
    refine ha.so B a x r1 _ o e1 fun v g1 h1 o1 n1 x1 => ?_
    cases x with
    | bool b =>
      cases x1
      refine ⟨b, rfl, ?_⟩
      cases b with
      | true =>
        rw [if_pos rfl]
        cases ef
        exact k _ g1 h1 o1 n1 (.bl _)
      | false =>
        rw [if_neg Bool.false_ne_true]
        exact hb.so B ⟨g1, h1, a.s, r1⟩ d r' Q o1 ef fun w g2 h2 o2 n2 x2 => k w g2 h2 o2 (n1.trans n2) x2
    | _ => cases ef⟩
theorem qh_not {f : FH} (ha : QH X K T ea ta f) : QH X K T (.UnaryOp .Not ea pos) (tNotV ta) (vNot f) := ⟨ha.k, pe_not ha.pe, fun B a d r' Q o ef k => by
  unfold vNot at ef
  cases e1 : f a.r with
  | none => rw [e1] at ef; cases ef
  | some p =>
    obtain ⟨x, r1⟩ := p
    rw [e1, Option.bind_some] at ef
    refine ha.so B a x r1 _ o e1 fun v g1 h1 o1 n1 x1 => ?_
    cases x with
    | bool b =>
      cases ef
      cases x1
      exact ⟨b, rfl, k _ g1 h1 o1 n1 (.bl _)⟩
    | _ => cases ef⟩
theorem qh_if {c : FT} {f g : FH} (hc : QT X K T ec ca c) (ha : QH X K T ea ta f) (hb : QH X K T eb tb g) : QH X K T (.IfExp ec ea eb pos) (tIf ca ta tb) (fIf c f g) := ⟨hc.k, pe_ifExp hc.pt ha.pe hb.pe, fun B a d r' Q o ef k => by
  unfold fIf at ef
  cases e1 : c a.r with
  | none => rw [e1] at ef; cases ef
  | some p =>
    obtain ⟨x, r1⟩ := p
    rw [e1, Option.bind_some] at ef
    refine hc.so B a x r1 _ o e1 fun g1 h1 o1 n1 => ?_
    cases x with
    | true =>
      rw [if_pos rfl] at ef ⊢
      exact ha.so B ⟨g1, h1, a.s, r1⟩ d r' Q o1 ef fun w g2 h2 o2 n2 x2 => k w g2 h2 o2 (n1.trans n2) x2
    | false =>
      rw [if_neg Bool.false_ne_true] at ef ⊢
      exact hb.so B ⟨g1, h1, a.s, r1⟩ d r' Q o1 ef fun w g2 h2 o2 n2 x2 => k w g2 h2 o2 (n1.trans n2) x2⟩
/-- a name, a subscript .. as a test by its truth -/
def truD : D → Option Bool
  | .none => some false
  | .bool b => some b
  | .int i => some (i != 0)
  | .list ds => some (!ds.isEmpty)
  | .tuple ds => some (!ds.isEmpty)
  | _ => none
def fTru (f : FP) : FT := fun ρ => (f ρ).bind fun d => (truD d).map fun c => (c, ρ)
theorem emp_len {vs : List V} {ds : List D} (e : vs.length = ds.length) : (!vs.isEmpty) = !ds.isEmpty := by
  cases vs <;> cases ds <;> first | rfl | cases e
theorem qt_tru {f : FP} (ha : QB X K T ea ta f) (he : ∀ whole, isTrue ea X.env whole = (do let v ← whole; standAt ea.pos; holding [v] (truthy v)) := by intro _; rfl) : QT X K T ea (fun σ H Q => ta σ H fun x H' => ∃ k, TruV K x H' k ∧ Q k H') (fTru f) := ⟨ha.k, ha.k ▸ pt_truth ha.pe he, fun B a c r' Q o ef k => by
  unfold fTru at ef
  cases e1 : f a.r with
  | none => rw [e1] at ef; cases ef
  | some x =>
    rw [e1, Option.bind_some] at ef
    cases e2 : truD x with
    | none => rw [e2] at ef; cases ef
    | some c' =>
      rw [e2] at ef
      cases ef
      refine ha.so B a x _ o e1 fun v g1 h1 o1 n1 r1 => ⟨_, ?_, k g1 h1 o1 n1⟩
      cases x with
      | none =>
        cases e2
        cases r1.none_
        rfl
      | bool b =>
        cases e2
        cases r1.bool
        rfl
      | int i =>
        cases e2
        cases r1.int
        rfl
      | list ds =>
        cases e2
        obtain ⟨p, vs, e3, hs, t⟩ := r1.list o1
        subst e3
        exact .inl ⟨vs, hs, (emp_len (dpa_len t)).symm⟩
      | tuple ds =>
        cases e2
        obtain ⟨p, vs, e3, _, hs, t⟩ := r1.tuple o1
        subst e3
        exact .inr (.inl ⟨vs, hs, (emp_len (dpa_len t)).symm⟩)
      | _ => cases e2⟩
end
end Pv

set_option Elab.async false
set_option linter.all false
set_option maxRecDepth 100000
set_option maxHeartbeats 2000000
namespace Pv
open PySem PySem.Spec PyProof.Rows L2 Lb

section
variable {K : PySem.W.Frag} {T B : Addr → Prop} {a b c : Sx}
theorem Nxt.putH (x : Nxt T a b) {p : Addr} {u : HO} (n : a.h p = none) : Nxt T a ⟨b.g, upd b.h p u, b.s, b.r⟩ :=
  ⟨fun q e => x.dm q (upd_none e), x.le, fun q w n' t w2 e => by
    obtain ⟨e1, n1, w1⟩ := x.fr q w n' t w2 e
    exact ⟨by show upd b.h p u q = _; rw [upd_ne (ne_of_none e n)]; exact e1, n1, w1⟩, x.pot⟩
/-- other slots, the same where something is held -/
theorem Ok.res {g h : Hp} {s s' : L2.St} {r : Ev} (o : Ok K T B ⟨g, h, s', r⟩) (hl : s.length = s'.length) (e : ∀ (i : Nat) x, r[i]? = some (some x) → s[i]? = s'[i]?) : Ok K T B ⟨g, h, s, r⟩ := by
  refine ⟨o.tab, o.gT, o.le, by show r.length = s.length; rw [hl]; exact o.len, o.dom, o.kn, fun i d h1 => ?_, fun i b ds h1 => ?_, fun i j p ⟨h1, e1⟩ ⟨h2, e2⟩ => ?_⟩
  · obtain ⟨v, e1, x⟩ := o.sh i d h1
    exact ⟨v, by show s[i]? = _; rw [e i _ h1]; exact e1, x⟩
  · obtain ⟨p, vs, e1, x⟩ := o.ow i b ds h1
    exact ⟨p, vs, by show s[i]? = _; rw [e i _ h1]; exact e1, x⟩
  · obtain ⟨b1, d1, h1⟩ := h1
    obtain ⟨b2, d2, h2⟩ := h2
    exact o.inj i j p ⟨⟨b1, d1, h1⟩, by show s'[i]? = _; rw [← e i _ h1]; exact e1⟩ ⟨⟨b2, d2, h2⟩, by show s'[j]? = _; rw [← e j _ h2]; exact e2⟩
theorem Tied.res {g h : Hp} {s s' : L2.St} {r : Ev} (e : ∀ (i : Nat) x, r[i]? = some (some x) → s[i]? = s'[i]?) {p : Addr} (t : Tied ⟨g, h, s, r⟩ p) : Tied ⟨g, h, s', r⟩ p := by
  obtain ⟨i, ⟨b, ds, h1⟩, e1⟩ := t
  exact ⟨i, ⟨b, ds, h1⟩, by show s'[i]? = _; rw [← e i _ h1]; exact e1⟩
theorem Nxt.res {g h : Hp} {s' : L2.St} {r : Ev} (x : Nxt T a ⟨g, h, s', r⟩) (e : ∀ (i : Nat) x, r[i]? = some (some x) → a.s[i]? = s'[i]?) : Nxt T a ⟨g, h, a.s, r⟩ :=
  ⟨x.dm, x.le, fun p u n t w e1 => by
    obtain ⟨e2, n2, w2⟩ := x.fr p u n t w e1
    exact ⟨e2, n2, fun z => w2 (Tied.res e z)⟩, fun i ds e1 => ⟨(x.pot i ds e1).1, rfl⟩⟩
end

/-! ### argument lists, displays -/
def fNil : FO := fun ρ => some ([], ρ)
def fCons (f : FH) (g : FO) : FO := fun ρ => (f ρ).bind fun p => (g p.2).map fun q => (p.1 :: q.1, q.2)
def BIG : Nat := 1000000
theorem big_line : BIG ≤ sizeLine := by
  rw [sizeLine_eq]
  decide
def fTup (g : FO) : FH := fun ρ => (g ρ).bind fun p => if p.1.length ≤ BIG then some (.tuple p.1, p.2) else none
def fLst (g : FO) : FO := fun ρ => (g ρ).bind fun p => if p.1.length ≤ BIG then some p else none
def tTupD (t : TA) : TE := fun σ H Q => t σ H fun xs H1 => xs.length ≤ sizeLine ∧ ∀ (p : Addr) (o : Obj), o.dict = none → H1 p = none → Q (.ref p) (upd H1 p (.frz o (.tup xs)))
section
variable {X : Cx} {K : PySem.W.Frag} {T : Addr → Prop} {e : Expr} {es : List Expr} {te : TE} {t : TA} {pos : Pos}
theorem pe_tupD {x1 : Nat} (h : PA X es t) : PE X (.Tuple es x1 pos) (tTupD t) := by
  refine ⟨fun pins s σ H Q I hq => ?_⟩
  refine wpAny_Tuple_spliced (thn (h.run pos pins s σ H _ I hq) fun us s1 ⟨xs, H1, I1, r, z, q⟩ => ⟨by rw [← r.length]; exact z, ?_⟩)
  exact ⟨.ref s1.heap.objs.size, _, inv_frz I1 (fun b o e => e) z r s1.toks, rfl, q _ _ rfl (I1.hok.fresh (Nat.le_refl _))⟩
theorem qa_nil (hk : X.K = K := by rfl) : QA X K T [] tNil fNil := ⟨hk, pa_nil, fun B a ds r' Q o ef k => by
  cases ef
  exact k [] a.g a.h o .refl .nil⟩
theorem sa_cons {f : FH} {g : FO} (hf : SH K T te f) (hg : SA K T t g) : SA K T (tCons te t) (fCons f g) := fun B a ds r' Q o ef k => by
  unfold fCons at ef
  cases e1 : f a.r with
  | none => rw [e1] at ef; cases ef
  | some p =>
    obtain ⟨x, r1⟩ := p
    rw [e1, Option.bind_some] at ef
    cases e2 : g r1 with
    | none => rw [e2] at ef; cases ef
    | some q =>
      obtain ⟨xs, r2⟩ := q
      rw [e2] at ef
      cases ef
      refine hf B a x r1 _ o e1 fun v g1 h1 o1 n1 x1 => ?_
      exact hg B ⟨g1, h1, a.s, r1⟩ xs _ _ o1 e2 fun vs g2 h2 o2 n2 x2 => k (v :: vs) g2 h2 o2 (n1.trans n2) (.cons (dp_sub n2.le x1) x2)
theorem qa_cons {f : FH} {g : FO} (hf : QH X K T e te f) (hg : QA X K T es t g) (hs : starEach (e :: es) X.env = (false, eval e X.env) :: starEach es X.env := by rfl) : QA X K T (e :: es) (tCons te t) (fCons f g) := ⟨hf.k, pa_cons hf.pe hg.pa hs, sa_cons hf.so hg.so⟩
theorem qh_tup {g : FO} {x1 : Nat} (h : QA X K T es t g) : QH X K T (.Tuple es x1 pos) (tTupD t) (fTup g) := ⟨h.k, pe_tupD h.pa, fun B a d r' Q o ef k => by
  unfold fTup at ef
  cases e1 : g a.r with
  | none => rw [e1] at ef; cases ef
  | some q =>
    obtain ⟨ds, r1⟩ := q
    rw [e1, Option.bind_some] at ef
    split at ef
    · rename_i hz
      cases ef
      refine h.so B a ds _ _ o e1 fun vs g1 h1 o1 n1 x1 => ⟨by rw [dpa_len x1]; exact Nat.le_trans hz big_line, fun p ob hd hp => ?_⟩
      exact k _ _ _ (o1.newG hp hd) (n1.trans (o1.newG_nxt hp)) (.tup (.inl (.inr ⟨ob, upd_same⟩)) (dpa_sub (Sub.new (o1.gn hp)) x1))
    · cases ef⟩
theorem qo_lst {g : FO} (h : QA X K T es t g) : QO X K T (.List es pos) (tLst t) (fLst g) := ⟨h.k, pe_lst h.pa, fun B a d r' Q o ef k => by
  unfold fLst at ef
  cases e1 : g a.r with
  | none => rw [e1] at ef; cases ef
  | some q =>
    obtain ⟨ds, r1⟩ := q
    rw [e1, Option.bind_some] at ef
    split at ef
    · rename_i hz
      cases ef
      refine h.so B a d _ _ o e1 fun vs g1 h1 o1 n1 x1 => ⟨by rw [dpa_len x1]; exact Nat.le_trans hz big_line, fun p hp => ?_⟩
      refine k p vs _ _ (o1.newH hp) (n1.trans (o1.newH_nxt hp)) ?_ upd_same (o1.gn hp) ?_ x1
      · exact n1.dm p hp
      · exact o1.untied hp
    · cases ef⟩
end
end Pv

set_option Elab.async false
set_option linter.all false
set_option maxRecDepth 100000
set_option maxHeartbeats 2000000
namespace Pv
open PySem PySem.Spec PyProof.Rows L2 Lb

/-! ### targets -/
/-- the thing that is stored: shared data, or (raw) a tuple of shared data -/
def Yl (K : PySem.W.Frag) (raw : Bool) (g h : Hp) (x : V) (d : D) : Prop := (raw = false ∧ Dp K g x d) ∨ (raw = true ∧ ∃ p vs ds, x = .ref p ∧ d = .tuple ds ∧ SqT K h p vs ∧ DpAll K g vs ds)
abbrev FG := D → Ev → Option Ev
def SG (K : PySem.W.Frag) (T : Addr → Prop) (raw : Bool) (t : TG) (f : FG) (is : List Nat) : Prop := ∀ (B : Addr → Prop) (a : Sx) (x : V) (d : D) (r' : Ev) (Q : L2.St → Hp → Prop), Ok K T B a → Yl K raw a.g a.h x d → f d a.r = some r' →
  (∀ g' h' s', Ok K T B ⟨g', h', s', r'⟩ → Nxt T a ⟨g', h', s', r'⟩ → s'.length = a.s.length → (∀ j, j ∉ is → s'[j]? = a.s[j]?) → Q s' h') → t x a.s a.h Q
structure QG (X : Cx) (K : PySem.W.Frag) (T : Addr → Prop) (raw : Bool) (e : Expr) (t : TG) (f : FG) (is : List Nat) : Prop where
  k : X.K = K
  pg : PG X e t
  so : SG K T raw t f is
def freeB (r : Ev) (i : Nat) : Bool := match r[i]? with
  | some (some (.ow false _)) => false
  | some _ => true
  | none => false
theorem freeB_ok {r : Ev} {i : Nat} (h : freeB r i = true) : Free r i := by
  unfold freeB at h
  split at h
  · cases h
  · rename_i x nx e
    exact ⟨(List.getElem?_eq_some_iff.mp e).1, fun ds z => by rw [e] at z; cases z; exact nx _ rfl⟩
  · cases h
def sName (i : Nat) : FG := fun d r => if freeB r i = true then some (r.set i (some (.sh d))) else none
abbrev FGs := List D → Ev → Option Ev
def sNil : FGs := fun ds r => match ds with | [] => some r | _ => none
def sCons (f : FG) (g : FGs) : FGs := fun ds r => match ds with | d :: ds => (f d r).bind fun r1 => g ds r1 | _ => none
def sTup (n : Nat) (g : FGs) : FG := fun d r => match d with | .tuple ds => if ds.length = n then g ds r else none | _ => none
def SGs (K : PySem.W.Frag) (T : Addr → Prop) (t : TGs) (f : FGs) (is : List Nat) : Prop := ∀ (B : Addr → Prop) (a : Sx) (xs : List V) (ds : List D) (r' : Ev) (Q : L2.St → Hp → Prop), Ok K T B a → DpAll K a.g xs ds → f ds a.r = some r' →
  (∀ g' h' s', Ok K T B ⟨g', h', s', r'⟩ → Nxt T a ⟨g', h', s', r'⟩ → s'.length = a.s.length → (∀ j, j ∉ is → s'[j]? = a.s[j]?) → Q s' h') → t xs a.s a.h Q
structure QGs (X : Cx) (K : PySem.W.Frag) (T : Addr → Prop) (es : List Expr) (t : TGs) (f : FGs) (is : List Nat) : Prop where
  k : X.K = K
  pg : PGs X es t
  so : SGs K T t f is
section
variable {X : Cx} {K : PySem.W.Frag} {T : Addr → Prop} {e : Expr} {es : List Expr}
theorem qg_name (i : Nat) (h : PG X e (gName i)) (hk : X.K = K := by rfl) : QG X K T false e (gName i) (sName i) [i] := ⟨hk, h, fun B a x d r' Q o y ef k => by
  unfold sName at ef
  split at ef
  · rename_i fr
    cases ef
    have f := freeB_ok fr
    rcases y with ⟨_, x1⟩ | ⟨z, _⟩
    · exact k _ _ _ (o.setSh f x1) (Nxt.setSh f) (by rw [List.length_set]) fun j hj => List.getElem?_set_ne fun z => hj (by rw [z]; exact List.mem_singleton.mpr rfl)
    · cases z
  · cases ef⟩
theorem qgs_nil (hk : X.K = K := by rfl) : QGs X K T [] gNil sNil [] := ⟨hk, pgs_nil, fun B a xs ds r' Q o y ef k => by
  unfold sNil at ef
  cases y with
  | nil =>
    cases ef
    exact ⟨rfl, k a.g a.h a.s o .refl rfl fun _ _ => rfl⟩
  | cons _ _ => cases ef⟩
theorem qgs_cons {t : TG} {u : TGs} {f : FG} {g : FGs} {is js : List Nat} (h1 : QG X K T false e t f is) (h2 : QGs X K T es u g js)
    (hs : (assignEach (e :: es) X.env).map (·.2) = assign e X.env :: (assignEach es X.env).map (·.2) := by rfl) : QGs X K T (e :: es) (gCons t u) (sCons f g) (is ++ js) := ⟨h1.k, pgs_cons h1.pg h2.pg hs, fun B a xs ds r' Q o y ef k => by
  unfold sCons at ef
  cases y with
  | nil => cases ef
  | cons x xr =>
    rename_i v vs d ds
    have ef : (f d a.r).bind (fun r1 => g ds r1) = some r' := ef
    cases e1 : f d a.r with
    | none => rw [e1] at ef; cases ef
    | some r1 =>
      rw [e1, Option.bind_some] at ef
      refine ⟨v, vs, rfl, h1.so B a v d r1 _ o (.inl ⟨rfl, x⟩) e1 fun g1 h1' s1 o1 n1 l1 j1 => ?_⟩
      refine h2.so B ⟨g1, h1', s1, r1⟩ vs ds r' _ o1 (dpa_sub n1.le xr) ef fun g2 h2' s2 o2 n2 l2 j2 => k g2 h2' s2 o2 (n1.trans n2) (l2.trans l1) fun j hj => ?_
      exact (j2 j fun z => hj (List.mem_append_right _ z)).trans (j1 j fun z => hj (List.mem_append_left _ z))⟩
theorem qg_tup {kk : Nat} {t : TGs} {g : FGs} {is : List Nat} {n : Nat} {raw : Bool} {pos : Pos} (hc : X.calm = true) (h : QGs X K T es t g is)
    (hn : (assignEach es X.env).length = n := by rfl) (hst : (assignEach es X.env).findIdx? (·.1) = none := by rfl) : QG X K T raw (.Tuple es kk pos) (gTup K n t) (sTup n g) is := ⟨h.k, h.k ▸ pg_tup hc h.pg hn hst, fun B a x d r' Q o y ef k => by
  unfold sTup at ef
  split at ef
  · rename_i ds
    split at ef
    · rename_i hl
      have seq : ∃ p vs, x = .ref p ∧ SqT K a.h p vs ∧ DpAll K a.g vs ds := by
        rcases y with ⟨_, x1⟩ | ⟨_, p, vs, es', e1, e2, hq, t1⟩
        · cases x1 with
          | tup hq t1 => exact ⟨_, _, rfl, sqt_sub o.le hq, t1⟩
        · cases e2
          exact ⟨p, vs, e1, hq, t1⟩
      obtain ⟨p, vs, e1, hq, t1⟩ := seq
      exact ⟨p, vs, e1, hq, by rw [dpa_len t1]; exact hl, h.so B a vs ds r' Q o t1 ef k⟩
    · cases ef
  · cases ef⟩
end

/-! ### statements -/
inductive Fl where
  | nx (r : Ev)
  | bk (r : Ev)
  | ct (r : Ev)
  | rt (x : Sl) (r : Ev)
abbrev FS := Ev → Option Fl
def RetR (K : PySem.W.Frag) (B : Addr → Prop) (b : Sx) (x : Sl) (v : V) : Prop := match x with
  | .sh d => Dp K b.g v d
  | .ow _ ds => ∃ p vs, v = .ref p ∧ b.h p = some (.lst vs) ∧ b.g p = none ∧ ¬ B p ∧ ¬ Tied b p ∧ DpAll K b.g vs ds
def Fin (K : PySem.W.Frag) (T B : Addr → Prop) (a : Sx) (D : Ends) (fl : Fl) : Prop := match fl with
  | .nx r => ∀ b, Ok K T B b → Nxt T a b → b.r = r → D.nx b.s b.h
  | .bk r => ∀ b, Ok K T B b → Nxt T a b → b.r = r → D.bk b.s b.h
  | .ct r => ∀ b, Ok K T B b → Nxt T a b → b.r = r → D.ct b.s b.h
  | .rt x r => ∀ v b, Ok K T B b → Nxt T a b → b.r = r → RetR K B b x v → D.rt v b.h
theorem Fin.trans {K : PySem.W.Frag} {T B : Addr → Prop} {a b : Sx} {D : Ends} {fl : Fl} (n : Nxt T a b) (h : Fin K T B a D fl) : Fin K T B b D fl := by
  cases fl with
  | nx r => exact fun c o m e => h c o (n.trans m) e
  | bk r => exact fun c o m e => h c o (n.trans m) e
  | ct r => exact fun c o m e => h c o (n.trans m) e
  | rt x r => exact fun v c o m e q => h v c o (n.trans m) e q
def SS (K : PySem.W.Frag) (T : Addr → Prop) (t : TS) (f : FS) : Prop := ∀ (B : Addr → Prop) (a : Sx) (D : Ends) (fl : Fl), Ok K T B a → f a.r = some fl → Fin K T B a D fl → t D a.s a.h
structure QS (X : Cx) (K : PySem.W.Frag) (T : Addr → Prop) (st : Stmt) (t : TS) (f : FS) : Prop where
  k : X.K = K
  ps : PS X st t
  so : SS K T t f
structure QSs (X : Cx) (K : PySem.W.Frag) (T : Addr → Prop) (st : List Stmt) (t : TS) (f : FS) : Prop where
  k : X.K = K
  ps : PSs X st t
  so : SS K T t f
def gNx : FS := fun r => some (.nx r)
def gSeq (f g : FS) : FS := fun r => (f r).bind fun fl => match fl with | .nx r1 => g r1 | o => some o
def gIf (c : FT) (f g : FS) : FS := fun r => (c r).bind fun p => if p.1 = true then f p.2 else g p.2
def gSet (i : Nat) (f : FH) : FS := fun r => (f r).bind fun p => (sName i p.1 p.2).map .nx
def gSetO (i : Nat) (f : FO) : FS := fun r => (f r).bind fun p => if freeB p.2 i = true then some (.nx (p.2.set i (some (.ow true p.1)))) else none
def gAsg (f : FH) (g : FG) : FS := fun r => (f r).bind fun p => (g p.1 p.2).map .nx
def gExp (f : FH) : FS := fun r => (f r).map fun p => .nx p.2
def gRet (f : FH) : FS := fun r => (f r).map fun p => .rt (.sh p.1) p.2
def gRetO (f : FO) : FS := fun r => (f r).map fun p => .rt (.ow true p.1) p.2
/-- return of a list of one's own by its name -/
def gRetV (i : Nat) : FS := fun r => match r[i]? with | some (some (.ow true ds)) => some (.rt (.ow true ds) (r.set i none)) | _ => none
section
variable {X : Cx} {K : PySem.W.Frag} {T : Addr → Prop} {st : Stmt} {rest : List Stmt} {e : Expr} {te : TE} {t u : TS} {pos : Pos}
theorem qss_nil (hk : X.K = K := by rfl) : QSs X K T [] tNext gNx := ⟨hk, pss_nil, fun B a D fl o ef k => by
  cases ef
  exact k a o .refl rfl⟩
theorem qs_pass (hk : X.K = K := by rfl) : QS X K T (.Pass pos) tNext gNx := ⟨hk, ps_pass, fun B a D fl o ef k => by
  cases ef
  exact k a o .refl rfl⟩
theorem qs_break (hk : X.K = K := by rfl) : QS X K T (.Break pos) tBreak (fun r => some (.bk r)) := ⟨hk, ps_break, fun B a D fl o ef k => by
  cases ef
  exact k a o .refl rfl⟩
theorem qs_continue (hk : X.K = K := by rfl) : QS X K T (.Continue pos) tCont (fun r => some (.ct r)) := ⟨hk, ps_continue, fun B a D fl o ef k => by
  cases ef
  exact k a o .refl rfl⟩
theorem qs_never (hk : X.K = K := by rfl) : QS X K T st tNever (fun _ => none) := ⟨hk, ps_never, fun B a D fl o ef k => by cases ef⟩
theorem ss_seq {f g : FS} (h1 : SS K T t f) (h2 : SS K T u g) : SS K T (tSeq t u) (gSeq f g) := fun B a D fl o ef k => by
  unfold gSeq at ef
  cases e1 : f a.r with
  | none => rw [e1] at ef; cases ef
  | some x =>
    rw [e1, Option.bind_some] at ef
    refine h1 B a _ x o e1 ?_
    cases x with
    | nx r1 => exact fun b ob nb eb => h2 B b D fl ob (by rw [eb]; exact ef) (k.trans nb)
    | bk r1 =>
      cases ef
      exact k
    | ct r1 =>
      cases ef
      exact k
    | rt x r1 =>
      cases ef
      exact k
theorem qss_cons {f g : FS} (h1 : QS X K T st t f) (h2 : QSs X K T rest u g) : QSs X K T (st :: rest) (tSeq t u) (gSeq f g) := ⟨h1.k, pss_cons h1.ps h2.ps, ss_seq h1.so h2.so⟩
theorem qss_one {f : FS} (h1 : QS X K T st t f) : QSs X K T [st] t f := ⟨h1.k, pss_one h1.ps, h1.so⟩
theorem qs_if {c : Expr} {b1 b2 : List Stmt} {tc : TT} {fc : FT} {f g : FS} (hc : QT X K T c tc fc) (h1 : QSs X K T b1 t f) (h2 : QSs X K T b2 u g) : QS X K T (.If c b1 b2 pos) (tIfS tc t u) (gIf fc f g) := ⟨hc.k, ps_if hc.pt h1.ps h2.ps, fun B a D fl o ef k => by
  unfold gIf at ef
  cases e1 : fc a.r with
  | none => rw [e1] at ef; cases ef
  | some p =>
    obtain ⟨x, r1⟩ := p
    rw [e1, Option.bind_some] at ef
    refine hc.so B a x r1 _ o e1 fun g1 h1' o1 n1 => ?_
    cases x with
    | true =>
      rw [if_pos rfl] at ef ⊢
      exact h1.so B ⟨g1, h1', a.s, r1⟩ D fl o1 ef (k.trans n1)
    | false =>
      rw [if_neg Bool.false_ne_true] at ef ⊢
      exact h2.so B ⟨g1, h1', a.s, r1⟩ D fl o1 ef (k.trans n1)⟩
theorem ss_asg {tg : TG} {f : FH} {g : FG} {is : List Nat} (he : SH K T te f) (hg : SG K T false tg g is) : SS K T (tAsg te tg) (gAsg f g) := fun B a D fl o ef k => by
  unfold gAsg at ef
  cases e1 : f a.r with
  | none => rw [e1] at ef; cases ef
  | some p =>
    obtain ⟨x, r1⟩ := p
    rw [e1, Option.bind_some] at ef
    cases e2 : g x r1 with
    | none => rw [e2] at ef; cases ef
    | some r2 =>
      rw [e2] at ef
      cases ef
      refine he B a x r1 _ o e1 fun v g1 h1 o1 n1 x1 => ?_
      exact hg B ⟨g1, h1, a.s, r1⟩ v x r2 _ o1 (.inl ⟨rfl, x1⟩) e2 fun g2 h2 s' o2 n2 _ _ => k ⟨g2, h2, s', r2⟩ o2 (n1.trans n2) rfl
theorem qs_asg {tg : Expr} {tt : TG} {f : FH} {g : FG} {is : List Nat} (he : QH X K T e te f) (hg : QG X K T false tg tt g is) (hs : swapsWithSole [tg] e pos.line X.env = pure false := by rfl) (hw : swappedStores [tg] e X.env = pure none := by rfl)
    (h1 : (assignEach [tg] X.env).map (·.2) = [assign tg X.env] := by rfl) : QS X K T (.Assign [tg] e pos) (tAsg te tt) (gAsg f g) := ⟨he.k, ps_asg he.pe hg.pg hs hw h1, ss_asg he.so hg.so⟩
theorem sg_name (i : Nat) : SG K T false (gName i) (sName i) [i] := fun B a x d r' Q o y ef k => by
  unfold sName at ef
  split at ef
  · rename_i fr
    cases ef
    have f := freeB_ok fr
    rcases y with ⟨_, x1⟩ | ⟨z, _⟩
    · exact k _ _ _ (o.setSh f x1) (Nxt.setSh f) (by rw [List.length_set]) fun j hj => List.getElem?_set_ne fun z => hj (by rw [z]; exact List.mem_singleton.mpr rfl)
    · cases z
  · cases ef
theorem qs_set {i : Nat} {x : Str} {f : FH} {pos' : Pos} (hN : X.N.Nodup) (hi : X.N[i]? = some x) (hx : Loc X.env.scope x) (he : QH X K T e te f) (hs : swapsWith e (some (.Name x pos')) pos.line X.env = pure false := by rfl) (hf : X.fn x = true ∨ X.env.scope.names.lookup x = some .local := by first | exact .inl rfl | exact .inr rfl | assumption) :
    QS X K T (.Assign [.Name x pos'] e pos) (tAsg te (gName i)) (gSet i f) := ⟨he.k, ps_set hN hi hx he.pe hs hf, ss_asg he.so (sg_name i)⟩
theorem ss_setO {i : Nat} {f : FO} (he : SO K T te f) : SS K T (tAsg te (gName i)) (gSetO i f) := fun B a D fl o ef k => by
  unfold gSetO at ef
  cases e1 : f a.r with
  | none => rw [e1] at ef; cases ef
  | some p =>
    obtain ⟨ds, r1⟩ := p
    rw [e1, Option.bind_some] at ef
    split at ef
    · rename_i fr
      cases ef
      have f := freeB_ok fr
      refine he B a ds r1 _ o e1 fun p vs g1 h1 o1 n1 hp e2 gp w x1 => ?_
      have nb : ¬ B p := fun z => o.dom p z hp
      exact k ⟨g1, h1, a.s.set i (some (.ref p)), r1.set i (some (.ow true ds))⟩ (o1.setOw f e2 gp w nb x1) (n1.setOw f o1.len hp) rfl
    · cases ef
theorem qs_setO {i : Nat} {x : Str} {f : FO} {pos' : Pos} (hN : X.N.Nodup) (hi : X.N[i]? = some x) (hx : Loc X.env.scope x) (he : QO X K T e te f) (hs : swapsWith e (some (.Name x pos')) pos.line X.env = pure false := by rfl) (hf : X.fn x = true ∨ X.env.scope.names.lookup x = some .local := by first | exact .inl rfl | exact .inr rfl | assumption) :
    QS X K T (.Assign [.Name x pos'] e pos) (tAsg te (gName i)) (gSetO i f) := ⟨he.k, ps_set hN hi hx he.pe hs hf, ss_setO he.so⟩
theorem qs_expr {f : FH} (he : QH X K T e te f) (hs : swapsWith e none pos.line X.env = pure false := by rfl) : QS X K T (.Expr e pos) (tDrop te) (gExp f) := ⟨he.k, ps_expr he.pe hs, fun B a D fl o ef k => by
  unfold gExp at ef
  cases e1 : f a.r with
  | none => rw [e1] at ef; cases ef
  | some p =>
    obtain ⟨x, r1⟩ := p
    rw [e1] at ef
    cases ef
    exact he.so B a x r1 _ o e1 fun v g1 h1 o1 n1 x1 => k ⟨g1, h1, a.s, r1⟩ o1 n1 rfl⟩
theorem qs_ret {f : FH} (he : QH X K T e te f) : QS X K T (.Return (some e) pos) (tRet te) (gRet f) := ⟨he.k, ps_ret he.pe, fun B a D fl o ef k => by
  unfold gRet at ef
  cases e1 : f a.r with
  | none => rw [e1] at ef; cases ef
  | some p =>
    obtain ⟨x, r1⟩ := p
    rw [e1] at ef
    cases ef
    exact he.so B a x r1 _ o e1 fun v g1 h1 o1 n1 x1 => k v ⟨g1, h1, a.s, r1⟩ o1 n1 rfl x1⟩
theorem qs_retO {f : FO} (he : QO X K T e te f) : QS X K T (.Return (some e) pos) (tRet te) (gRetO f) := ⟨he.k, ps_ret he.pe, fun B a D fl o ef k => by
  unfold gRetO at ef
  cases e1 : f a.r with
  | none => rw [e1] at ef; cases ef
  | some p =>
    obtain ⟨x, r1⟩ := p
    rw [e1] at ef
    cases ef
    exact he.so B a x r1 _ o e1 fun p vs g1 h1 o1 n1 hp e2 gp w x1 => k _ ⟨g1, h1, a.s, r1⟩ o1 n1 rfl ⟨p, vs, rfl, e2, gp, fun z => o.dom p z hp, w, x1⟩⟩
theorem qs_retV (i : Nat) (he : PE X e (tVar i)) (hk : X.K = K := by rfl) : QS X K T (.Return (some e) pos) (tRet (tVar i)) (gRetV i) := ⟨hk, ps_ret he, fun B a D fl o ef k => by
  unfold gRetV at ef
  split at ef
  · rename_i ds e1
    cases ef
    obtain ⟨p, vs, s, hp, gp, nb, x⟩ := o.ow i true ds e1
    refine ⟨.ref p, s, k (.ref p) ⟨a.g, a.h, a.s.set i none, a.r.set i none⟩ o.drop (Nxt.drop fun ds' z => by rw [e1] at z; cases z) rfl ⟨p, vs, rfl, hp, gp, nb rfl, fun ⟨j, ⟨b, es, e2⟩, s2⟩ => ?_, x⟩⟩
    have e2 : (a.r.set i none)[j]? = _ := e2
    have s2 : (a.s.set i none)[j]? = _ := s2
    rcases set_get (l := a.r) e2 with ⟨_, z⟩ | ⟨ne, z⟩
    · cases z
    · rw [List.getElem?_set_ne ne] at s2
      exact ne (o.inj i j p ⟨⟨true, ds, e1⟩, s⟩ ⟨⟨b, es, z⟩, s2⟩)
  · cases ef⟩
end

/-! ### what is walked -/
def ItOk (K : PySem.W.Frag) (T : Addr → Prop) (raw : Bool) (J : It) (g : Hp) (xs : List D) : Prop := ∀ (B : Addr → Prop) (c : Sx), Ok K T B c → Sub g c.g →
  (∀ i, xs.length ≤ i → J.stop i c.h) ∧ ∀ i d, xs[i]? = some d → J.go i c.h ∧ ∀ x H', J.yld i c.h x H' → ∃ g', Ok K T B ⟨g', H', c.s, c.r⟩ ∧ Nxt T c ⟨g', H', c.s, c.r⟩ ∧ Yl K raw g' H' x d
def SI (K : PySem.W.Frag) (T : Addr → Prop) (raw : Bool) (wi : TI) (f : FO) : Prop := ∀ (B : Addr → Prop) (a : Sx) (xs : List D) (r' : Ev) (R : It → Hp → Prop), Ok K T B a → f a.r = some (xs, r') →
  (∀ J g' h', Ok K T B ⟨g', h', a.s, r'⟩ → Nxt T a ⟨g', h', a.s, r'⟩ → ItOk K T raw J g' xs → R J h') → wi a.s a.h R
structure QI (X : Cx) (K : PySem.W.Frag) (T : Addr → Prop) (raw : Bool) (tg e : Expr) (wi : TI) (f : FO) : Prop where
  k : X.K = K
  pi : PI X tg e wi
  so : SI K T raw wi f
def fSeq (f : FH) : FO := fun r => (f r).bind fun p => (seqD p.1).map fun ds => (ds, p.2)
/-- a list or a tuple -/
def iLT (K : PySem.W.Frag) (tl : TE) : TI := fun σ H R => tl σ H fun x H1 => ∃ a, x = .ref a ∧ (((∃ xs, SqL K H1 a xs) ∧ R (Itl K a) H1) ∨ ((∃ xs, SqT K H1 a xs) ∧ R (Itt K a) H1))
section
variable {X : Cx} {K : PySem.W.Frag} {T : Addr → Prop} {tg e : Expr} {te : TE}
theorem pi_lt (hl : PE X e te) : PI X tg e (iLT X.K te) := by
  refine ⟨fun pins s σ H R I h => ?_⟩
  refine thn (hl.run pins s σ H _ I h) fun v s1 ⟨x, H1, I1, r1, q1⟩ => ?_
  obtain ⟨a, e, q⟩ := q1
  subst e
  cases r1
  rcases q with ⟨⟨xs, hq⟩, q⟩ | ⟨⟨xs, hq⟩, q⟩
  · obtain ⟨its, rv, p, hz⟩ := I1.list hq
    refine wpAny_pyIter_list p.isList ?_
    refine ⟨s1.heap.objs.size, [s1.heap.objs.size], _, _, H1, rfl, I1.kept (t' := s1.toks) fun b o e => Heap.get?_push_of_some _ e, turn_list a _, ⟨_, Heap.get?_push_size _ rfl, rfl, rfl⟩, fun b hb => ?_, q⟩
    have e : b = s1.heap.objs.size := by simpa using hb
    subst e
    exact I1.fpOk (Nat.le_refl _) (I1.hok.fresh (Nat.le_refl _))
  · obtain ⟨its, rv, p, hz⟩ := I1.tuple hq
    refine wpAny_pyIter_tuple (show s1.heap.IsTuple a its.toArray from p) ?_
    refine ⟨s1.heap.objs.size, [s1.heap.objs.size], _, _, H1, rfl, I1.kept (t' := s1.toks) fun b o e => Heap.get?_push_of_some _ e, turn_tuple a _, ⟨_, Heap.get?_push_size _ rfl, rfl, rfl⟩, fun b hb => ?_, q⟩
    have e : b = s1.heap.objs.size := by simpa using hb
    subst e
    exact I1.fpOk (Nat.le_refl _) (I1.hok.fresh (Nat.le_refl _))
theorem itok_list {g : Hp} {p : Addr} {vs : List V} {xs : List D} (hs : SqL K g p vs) (t : DpAll K g vs xs) : ItOk K T false (Itl K p) g xs := fun B c o s => by
  have hq : SqL K c.h p vs := sql_sub (s.trans o.le) hs
  refine ⟨fun i hi => ⟨vs, hq, by rw [dpa_len t]; exact hi⟩, fun i d e => ?_⟩
  obtain ⟨v, ev, x⟩ := dpa_get t e
  refine ⟨⟨vs, v, hq, ev⟩, fun y H' ⟨e1, e2⟩ => ?_⟩
  subst e1
  have z := e2 vs hq
  rw [ev] at z
  cases z
  exact ⟨c.g, o, .refl, .inl ⟨rfl, dp_sub s x⟩⟩
theorem itok_tup {g : Hp} {p : Addr} {vs : List V} {xs : List D} (hs : SqT K g p vs) (t : DpAll K g vs xs) : ItOk K T false (Itt K p) g xs := fun B c o s => by
  have hq : SqT K c.h p vs := sqt_sub (s.trans o.le) hs
  refine ⟨fun i hi => ⟨vs, hq, by rw [dpa_len t]; exact hi⟩, fun i d e => ?_⟩
  obtain ⟨v, ev, x⟩ := dpa_get t e
  refine ⟨⟨vs, v, hq, ev⟩, fun y H' ⟨e1, e2⟩ => ?_⟩
  subst e1
  have z := e2 vs hq
  rw [ev] at z
  cases z
  exact ⟨c.g, o, .refl, .inl ⟨rfl, dp_sub s x⟩⟩
theorem qi_seq {f : FH} (h : QH X K T e te f) : QI X K T false tg e (iLT K te) (fSeq f) := ⟨h.k, h.k ▸ pi_lt h.pe, fun B a xs r' R o ef k => by
  unfold fSeq at ef
  cases e1 : f a.r with
  | none => rw [e1] at ef; cases ef
  | some q =>
    obtain ⟨d, r1⟩ := q
    rw [e1, Option.bind_some] at ef
    cases e2 : seqD d with
    | none => rw [e2] at ef; cases ef
    | some ds =>
      rw [e2] at ef
      cases ef
      refine h.so B a d r1 _ o e1 fun v g1 h1 o1 n1 x1 => ?_
      cases d with
      | list zs =>
        cases e2
        cases x1 with
        | lst hs t =>
          refine ⟨_, rfl, .inl ⟨⟨_, sql_sub o1.le hs⟩, k _ g1 h1 o1 n1 (itok_list hs t)⟩⟩
      | tuple zs =>
        cases e2
        cases x1 with
        | tup hs t => exact ⟨_, rfl, .inr ⟨⟨_, sqt_sub o1.le hs⟩, k _ g1 h1 o1 n1 (itok_tup hs t)⟩⟩
      | _ => cases e2⟩
end
end Pv

set_option Elab.async false
set_option linter.all false
set_option maxRecDepth 100000
set_option maxHeartbeats 2000000
namespace Pv
open PySem PySem.Spec PyProof.Rows L2 Lb

/-! ### range, enumerate, zip -/
def rngD (lo : Int) (n : Nat) : List D := (List.range n).map fun i : Nat => PyData.int (lo + (i : Int))
def isSm (i : Int) : Bool := decide (i.natAbs.log2 < 61)
theorem isSm_b {i : Int} (h : isSm i = true) : -(2 ^ 62) ≤ i ∧ i < 2 ^ 62 := by
  unfold isSm at h
  have h := of_decide_eq_true h
  by_cases e : i.natAbs = 0
  · omega
  · have := (Nat.log2_lt e).mp h
    omega
def fRng1 (f : FO) : FO := fun r => (f r).bind fun p => match p.1 with | [.int j] => if isSm j = true then some (rngD 0 j.toNat, p.2) else none | _ => none
def fRng2 (f : FO) : FO := fun r => (f r).bind fun p => match p.1 with | [.int i, .int j] => if (isSm i && isSm j) = true then some (rngD i (j - i).toNat, p.2) else none | _ => none
section
variable {X : Cx} {K : PySem.W.Frag} {T : Addr → Prop} {tg e ea eb : Expr} {te : TE} {t : TA} {pos p : Pos}
theorem itok_range {lo : Int} {n : Nat} {g : Hp} : ItOk K T false (Itr lo n) g (rngD lo n) := fun B c o s => by
  have ln : (rngD lo n).length = n := by
    unfold rngD
    rw [List.length_map, List.length_range]
  refine ⟨fun i hi => by rw [ln] at hi; exact hi, fun i d e => ?_⟩
  have hi : i < n := by
    rw [← ln]
    exact (List.getElem?_eq_some_iff.mp e).1
  refine ⟨hi, fun x H' ⟨e1, e2⟩ => ?_⟩
  subst e1 e2
  unfold rngD at e
  rw [List.getElem?_map, List.getElem?_range hi] at e
  cases e
  exact ⟨c.g, o, .refl, .inl ⟨rfl, .int _⟩⟩
theorem dpa_one {g : Hp} {vs : List V} {d : D} (h : DpAll K g vs [d]) : ∃ v, vs = [v] ∧ Dp K g v d := by
  cases h with
  | cons x t =>
    cases t
    exact ⟨_, rfl, x⟩
theorem dpa_two {g : Hp} {vs : List V} {d e : D} (h : DpAll K g vs [d, e]) : ∃ v w, vs = [v, w] ∧ Dp K g v d ∧ Dp K g w e := by
  cases h with
  | cons x t =>
    obtain ⟨w, rfl, y⟩ := dpa_one t
    exact ⟨_, _, rfl, x, y⟩
theorem qi_rng1 {f : FO} (hg : Gl X "range") (hm : X.mg "range" = none) (ha : QA X K T [ea] t f) (hs : starEach [ea] X.env = [(false, eval ea X.env)] := by rfl) : QI X K T false tg (.Call (.Name "range" p) [ea] [] pos) (iRng1 t) (fRng1 f) := ⟨ha.k, pi_range1 hg hm ha.pa hs, fun B a xs r' R o ef k => by
  unfold fRng1 at ef
  cases e1 : f a.r with
  | none => rw [e1] at ef; cases ef
  | some q =>
    obtain ⟨ds, r1⟩ := q
    rw [e1, Option.bind_some] at ef
    split at ef
    · rename_i j hd
      have hd : ds = [.int j] := hd
      subst hd
      split at ef
      · rename_i hj
        cases ef
        refine ha.so B a _ _ _ o e1 fun vs g1 h1 o1 n1 x1 => ?_
        obtain ⟨v, rfl, x⟩ := dpa_one x1
        cases x
        have hj := isSm_b hj
        exact ⟨j, rfl, hj.1, hj.2, k _ g1 h1 o1 n1 itok_range⟩
      · cases ef
    · cases ef⟩
theorem qi_rng2 {f : FO} (hg : Gl X "range") (hm : X.mg "range" = none) (ha : QA X K T [ea, eb] t f) (hs : starEach [ea, eb] X.env = [(false, eval ea X.env), (false, eval eb X.env)] := by rfl) (hs2 : starEach [eb] X.env = [(false, eval eb X.env)] := by rfl) : QI X K T false tg (.Call (.Name "range" p) [ea, eb] [] pos) (iRng2 t) (fRng2 f) := ⟨ha.k, pi_range2 hg hm ha.pa hs hs2, fun B a xs r' R o ef k => by
  unfold fRng2 at ef
  cases e1 : f a.r with
  | none => rw [e1] at ef; cases ef
  | some q =>
    obtain ⟨ds, r1⟩ := q
    rw [e1, Option.bind_some] at ef
    split at ef
    · rename_i i j hd
      have hd : ds = [.int i, .int j] := hd
      subst hd
      split at ef
      · rename_i hj
        cases ef
        refine ha.so B a _ _ _ o e1 fun vs g1 h1 o1 n1 x1 => ?_
        obtain ⟨v, w, rfl, x, y⟩ := dpa_two x1
        cases x
        cases y
        rw [Bool.and_eq_true] at hj
        have hj := And.intro (isSm_b hj.1) (isSm_b hj.2)
        exact ⟨i, j, rfl, ⟨hj.1.1, hj.1.2, hj.2.1, hj.2.2⟩, k _ g1 h1 o1 n1 itok_range⟩
      · cases ef
    · cases ef⟩
/-- pairs that the iterator makes, new each time -/
theorem Ok.raw {B : Addr → Prop} {c : Sx} (o : Ok K T B c) {p : Addr} {u : HO} (n : c.h p = none) : Ok K T B ⟨c.g, upd c.h p u, c.s, c.r⟩ ∧ Nxt T c ⟨c.g, upd c.h p u, c.s, c.r⟩ := ⟨o.newH n, o.newH_nxt n⟩
def enD (i : Nat) : List D → List D
  | [] => []
  | d :: ds => .tuple [.int (i : Int), d] :: enD (i + 1) ds
theorem enD_get : ∀ (ds : List D) (k i : Nat), (enD k ds)[i]? = (ds[i]?).map fun d => PyData.tuple [.int ((k + i : Nat) : Int), d]
  | [], k, i => by simp [enD]
  | d :: ds, k, 0 => by simp [enD]
  | d :: ds, k, i + 1 => by
    unfold enD
    rw [List.getElem?_cons_succ, List.getElem?_cons_succ, enD_get ds (k + 1) i]
    have e : k + 1 + i = k + (i + 1) := by omega
    rw [e]
theorem enD_len : ∀ (ds : List D) (k : Nat), (enD k ds).length = ds.length
  | [], k => rfl
  | d :: ds, k => by
    unfold enD
    rw [List.length_cons, List.length_cons, enD_len ds (k + 1)]
def fEnum (f : FO) : FO := fun r => (f r).bind fun p => match p.1 with | [.list ds] => some (enD 0 ds, p.2) | _ => none
theorem qi_enum {f : FO} {elts : List Expr} {kk : Nat} {tpos : Pos} (hg : Gl X "enumerate") (hm : X.mg "enumerate" = none) (ha : QA X K T [ea] t f) (hs : starEach [ea] X.env = [(false, eval ea X.env)] := by rfl) : QI X K T true (.Tuple elts kk tpos) (.Call (.Name "enumerate" p) [ea] [] pos) (iEnum K t) (fEnum f) := ⟨ha.k, ha.k ▸ pi_enum hg hm ha.pa hs, fun B a xs r' R o ef k => by
  unfold fEnum at ef
  cases e1 : f a.r with
  | none => rw [e1] at ef; cases ef
  | some q =>
    obtain ⟨ds, r1⟩ := q
    rw [e1, Option.bind_some] at ef
    split at ef
    · rename_i es hd
      have hd : ds = [.list es] := hd
      subst hd
      cases ef
      refine ha.so B a _ _ _ o e1 fun vs g1 h1 o1 n1 x1 => ?_
      obtain ⟨v, rfl, x⟩ := dpa_one x1
      cases x with
      | lst hs t1 =>
        rename_i q ws
        refine ⟨q, ws, rfl, sql_sub o1.le hs, k _ g1 h1 o1 n1 fun B2 c o2 s2 => ?_⟩
        have hq : SqL K c.h q ws := sql_sub (s2.trans o2.le) hs
        refine ⟨fun i hi => ⟨ws, hq, by rw [dpa_len t1]; rw [enD_len] at hi; exact hi⟩, fun i d e => ?_⟩
        rw [enD_get] at e
        cases e3 : es[i]? with
        | none => rw [e3] at e; cases e
        | some d1 =>
          rw [e3] at e
          cases e
          obtain ⟨v1, ev, xv⟩ := dpa_get t1 e3
          refine ⟨⟨ws, v1, hq, ev⟩, fun y H' ⟨Tt, x', ey, hn, eH, hall⟩ => ?_⟩
          subst ey eH
          have z := hall ws hq
          rw [ev] at z
          cases z
          refine ⟨c.g, (o2.raw hn).1, (o2.raw hn).2, .inr ⟨rfl, Tt, _, _, rfl, rfl, SqT.of upd_same, .cons ?_ (.cons (dp_sub s2 xv) .nil)⟩⟩
          rw [Nat.zero_add]
          exact .int _
    · cases ef⟩
def zipD : List D → List D → List D
  | a :: as, b :: bs => .tuple [a, b] :: zipD as bs
  | _, _ => []
theorem zipD_get : ∀ (as bs : List D) (i : Nat), (zipD as bs)[i]? = (as[i]?).bind fun a => (bs[i]?).map fun b => PyData.tuple [a, b]
  | [], bs, i => by simp [zipD]
  | a :: as, [], i => by
    cases e : (a :: as)[i]? <;> simp [zipD, e]
  | a :: as, b :: bs, 0 => by simp [zipD]
  | a :: as, b :: bs, i + 1 => by
    unfold zipD
    rw [List.getElem?_cons_succ, List.getElem?_cons_succ, List.getElem?_cons_succ, zipD_get as bs i]
theorem zipD_len : ∀ (as bs : List D), (zipD as bs).length = min as.length bs.length
  | [], bs => by simp [zipD]
  | a :: as, [] => by simp [zipD]
  | a :: as, b :: bs => by
    unfold zipD
    rw [List.length_cons, List.length_cons, List.length_cons, zipD_len as bs]
    omega
def fZip (f : FO) : FO := fun r => (f r).bind fun p => match p.1 with | [.list as, .list bs] => some (zipD as bs, p.2) | [.tuple as, .tuple bs] => some (zipD as bs, p.2) | _ => none
theorem qi_zip {f : FO} {elts : List Expr} {kk : Nat} {tpos : Pos} (hg : Gl X "zip") (hm : X.mg "zip" = none) (ha : QA X K T [ea, eb] t f)
    (hs : starEach [ea, eb] X.env = (false, eval ea X.env) :: starEach [eb] X.env := by rfl) (hpl : (backTo pos (starEach [eb] X.env)).any (·.1) = false := by rfl) : QI X K T true (.Tuple elts kk tpos) (.Call (.Name "zip" p) [ea, eb] [] pos) (RZ.iZipA K t) (fZip f) := ⟨ha.k, ha.k ▸ RZ.pi_zipA hg hm ha.pa hs hpl, fun B a xs r' R o ef k => by
  unfold fZip at ef
  cases e1 : f a.r with
  | none => rw [e1] at ef; cases ef
  | some q =>
    obtain ⟨ds, r1⟩ := q
    rw [e1, Option.bind_some] at ef
    split at ef
    · rename_i as bs hd
      have hd : ds = [.list as, .list bs] := hd
      subst hd
      cases ef
      refine ha.so B a _ _ _ o e1 fun vs g1 h1 o1 n1 x1 => ?_
      obtain ⟨v, w, rfl, x, y⟩ := dpa_two x1
      cases x with
      | lst hs t1 =>
        rename_i q ws
        cases y with
        | lst hs' t2 =>
          rename_i q' ws'
          refine ⟨q, q', ws, ws', rfl, .inl ⟨sql_sub o1.le hs, sql_sub o1.le hs', k _ g1 h1 o1 n1 fun B2 c o2 s2 => ?_⟩⟩
          have hq : SqL K c.h q ws := sql_sub (s2.trans o2.le) hs
          have hq' : SqL K c.h q' ws' := sql_sub (s2.trans o2.le) hs'
          refine ⟨fun i hi => ⟨ws, ws', hq, hq', by rw [dpa_len t1, dpa_len t2]; rw [zipD_len] at hi; omega⟩, fun i d e => ?_⟩
          rw [zipD_get] at e
          cases e3 : as[i]? with
          | none => rw [e3] at e; cases e
          | some d1 =>
            cases e4 : bs[i]? with
            | none => rw [e3, e4] at e; cases e
            | some d2 =>
              rw [e3, e4] at e
              cases e
              obtain ⟨v1, ev, xv⟩ := dpa_get t1 e3
              obtain ⟨v2, ev2, xv2⟩ := dpa_get t2 e4
              refine ⟨⟨ws, ws', v1, v2, hq, hq', ev, ev2⟩, fun y H' ⟨Tt, x', y', ey, hn, eH, hall, hall'⟩ => ?_⟩
              subst ey eH
              have z := hall ws hq
              rw [ev] at z
              cases z
              have z := hall' ws' hq'
              rw [ev2] at z
              cases z
              exact ⟨c.g, (o2.raw hn).1, (o2.raw hn).2, .inr ⟨rfl, Tt, _, _, rfl, rfl, SqT.of upd_same, .cons (dp_sub s2 xv) (.cons (dp_sub s2 xv2) .nil)⟩⟩
    · rename_i as bs hd
      have hd : ds = [.tuple as, .tuple bs] := hd
      subst hd
      cases ef
      refine ha.so B a _ _ _ o e1 fun vs g1 h1 o1 n1 x1 => ?_
      obtain ⟨v, w, rfl, x, y⟩ := dpa_two x1
      cases x with
      | tup hs t1 =>
        rename_i q ws
        cases y with
        | tup hs' t2 =>
          rename_i q' ws'
          refine ⟨q, q', ws, ws', rfl, .inr ⟨sqt_sub o1.le hs, sqt_sub o1.le hs', k _ g1 h1 o1 n1 fun B2 c o2 s2 => ?_⟩⟩
          have hq : SqT K c.h q ws := sqt_sub (s2.trans o2.le) hs
          have hq' : SqT K c.h q' ws' := sqt_sub (s2.trans o2.le) hs'
          refine ⟨fun i hi => ⟨ws, ws', hq, hq', by rw [dpa_len t1, dpa_len t2]; rw [zipD_len] at hi; omega⟩, fun i d e => ?_⟩
          rw [zipD_get] at e
          cases e3 : as[i]? with
          | none => rw [e3] at e; cases e
          | some d1 =>
            cases e4 : bs[i]? with
            | none => rw [e3, e4] at e; cases e
            | some d2 =>
              rw [e3, e4] at e
              cases e
              obtain ⟨v1, ev, xv⟩ := dpa_get t1 e3
              obtain ⟨v2, ev2, xv2⟩ := dpa_get t2 e4
              refine ⟨⟨ws, ws', v1, v2, hq, hq', ev, ev2⟩, fun y H' ⟨Tt, x', y', ey, hn, eH, hall, hall'⟩ => ?_⟩
              subst ey eH
              have z := hall ws hq
              rw [ev] at z
              cases z
              have z := hall' ws' hq'
              rw [ev2] at z
              cases z
              exact ⟨c.g, (o2.raw hn).1, (o2.raw hn).2, .inr ⟨rfl, Tt, _, _, rfl, rfl, SqT.of upd_same, .cons (dp_sub s2 xv) (.cons (dp_sub s2 xv2) .nil)⟩⟩
    · cases ef⟩
end

/-! ### for, while -/
def loopF (g : FG) (body : FS) : List D → Ev → Option Fl
  | [], r => some (.nx r)
  | x :: xs, r => (g x r).bind fun r1 => (body r1).bind fun fl => match fl with
    | .nx r2 => loopF g body xs r2
    | .ct r2 => loopF g body xs r2
    | .bk r2 => some (.nx r2)
    | .rt v r2 => some (.rt v r2)
def gFor (fi : FO) (g : FG) (body : FS) : FS := fun r => (fi r).bind fun p => loopF g body p.1 p.2
def whF (c : FT) (body : FS) : Nat → Ev → Option Fl
  | 0, _ => none
  | n + 1, r => (c r).bind fun p => if p.1 = true then (body p.2).bind fun fl => (match fl with
    | .nx r2 => whF c body n r2
    | .ct r2 => whF c body n r2
    | .bk r2 => some (.nx r2)
    | .rt v r2 => some (.rt v r2)) else some (.nx p.2)
def gWh (n : Nat) (c : FT) (body : FS) : FS := fun r => whF c body n r
section
variable {X : Cx} {K : PySem.W.Frag} {T : Addr → Prop} {tg e : Expr} {body : List Stmt} {pos : Pos}
theorem drop_cons {α : Type} {l : List α} {i : Nat} (h : i < l.length) : l.drop i = l[i] :: l.drop (i + 1) := List.drop_eq_getElem_cons h
theorem qs_for {raw : Bool} {wi : TI} {tt : TG} {tb : TS} {fi : FO} {g : FG} {fb : FS} {is : List Nat} (hp : PassesOwn (model X.prog X.w) X.A X.env X.xe) (hc : X.calm = true) (hi : QI X K T raw tg e wi fi) (hg : QG X K T raw tg tt g is) (hb : QSs X K T body tb fb)
    (hs : ∀ x, foldedSetIterable e X.env x = pure x := by intro _; rfl) : QS X K T (.For tg e body [] pos) (tFor wi tt tb) (gFor fi g fb) := ⟨hi.k, ps_for hp hc hi.pi hg.pg hb.ps hs, fun B a D fl o ef k => by
  unfold gFor at ef
  cases e1 : fi a.r with
  | none => rw [e1] at ef; cases ef
  | some q =>
    obtain ⟨xs, r1⟩ := q
    rw [e1, Option.bind_some] at ef
    refine hi.so B a xs r1 _ o e1 fun J g1 h1 o1 n1 it => ?_
    refine ⟨fun i m σ H => m = xs.length - i ∧ i ≤ xs.length ∧ ∃ b, b.s = σ ∧ b.h = H ∧ Ok K T B b ∧ Nxt T a b ∧ Sub g1 b.g ∧ loopF g fb (xs.drop i) b.r = some fl, ⟨xs.length, rfl, Nat.zero_le _, ⟨g1, h1, a.s, r1⟩, rfl, rfl, o1, n1, .refl, ef⟩, ?_⟩
    rintro i m σ H ⟨rfl, hi', b, rfl, rfl, ob, nb, sb, eb⟩
    obtain ⟨j1, j2⟩ := it B b ob sb
    by_cases hlt : i < xs.length
    · rw [drop_cons hlt] at eb
      unfold loopF at eb
      obtain ⟨jg, jy⟩ := j2 i xs[i] (List.getElem?_eq_getElem hlt)
      refine .inr ⟨jg, fun σ' H' => ∃ b, b.s = σ' ∧ b.h = H' ∧ Ok K T B b ∧ Nxt T a b ∧ Sub g1 b.g ∧ loopF g fb (xs.drop (i + 1)) b.r = some fl, fun σ' H' q => ⟨xs.length - (i + 1), by omega, rfl, hlt, q⟩, fun x H' y => ?_⟩
      obtain ⟨g2, o2, n2, yl⟩ := jy x H' y
      cases e2 : g xs[i] b.r with
      | none => rw [e2] at eb; cases eb
      | some r2 =>
        rw [e2, Option.bind_some] at eb
        refine hg.so B ⟨g2, H', b.s, b.r⟩ x _ r2 _ o2 yl e2 fun g3 h3 s' o3 n3 _ _ => ?_
        cases e3 : fb r2 with
        | none => rw [e3] at eb; cases eb
        | some f2 =>
          rw [e3, Option.bind_some] at eb
          have n13 : Nxt T a ⟨g3, h3, s', r2⟩ := nb.trans (n2.trans n3)
          have s13 : Sub g1 g3 := sb.trans (n2.le.trans n3.le)
          refine hb.so B ⟨g3, h3, s', r2⟩ _ f2 o3 e3 ?_
          cases f2 with
          | nx r3 => exact fun c oc nc ec => ⟨c, rfl, rfl, oc, n13.trans nc, s13.trans nc.le, by rw [ec]; exact eb⟩
          | ct r3 => exact fun c oc nc ec => ⟨c, rfl, rfl, oc, n13.trans nc, s13.trans nc.le, by rw [ec]; exact eb⟩
          | bk r3 =>
            cases eb
            exact fun c oc nc ec => k c oc (n13.trans nc) ec
          | rt v r3 =>
            cases eb
            exact fun v c oc nc ec q => k v c oc (n13.trans nc) ec q
    · have ei : i = xs.length := by omega
      subst ei
      rw [List.drop_length] at eb
      unfold loopF at eb
      cases eb
      exact .inl ⟨j1 _ (Nat.le_refl _), k b ob nb rfl⟩⟩
theorem qs_while {c : Expr} {tc : TT} {tb : TS} {fc : FT} {fb : FS} (n : Nat) (hp : PassesOwn (model X.prog X.w) X.A X.env X.xe) (hc : QT X K T c tc fc) (hb : QSs X K T body tb fb) : QS X K T (.While c body [] pos) (tWhile tc tb) (gWh n fc fb) := ⟨hc.k, ps_while hp hc.pt hb.ps, fun B a D fl o ef k => by
  unfold gWh at ef
  refine ⟨fun m σ H => ∃ b, b.s = σ ∧ b.h = H ∧ Ok K T B b ∧ Nxt T a b ∧ whF fc fb m b.r = some fl, ⟨n, a, rfl, rfl, o, .refl, ef⟩, ?_⟩
  rintro m σ H ⟨b, rfl, rfl, ob, nb, eb⟩
  cases m with
  | zero => cases eb
  | succ m =>
    unfold whF at eb
    cases e1 : fc b.r with
    | none => rw [e1] at eb; cases eb
    | some q =>
      obtain ⟨x, r1⟩ := q
      rw [e1, Option.bind_some] at eb
      refine hc.so B b x r1 _ ob e1 fun g1 h1 o1 n1 => ?_
      cases x with
      | true =>
        rw [if_pos rfl] at eb ⊢
        refine ⟨fun σ' H' => ∃ c, c.s = σ' ∧ c.h = H' ∧ Ok K T B c ∧ Nxt T a c ∧ whF fc fb m c.r = some fl, fun σ' H' q => ⟨m, Nat.lt_succ_self _, q⟩, ?_⟩
        cases e3 : fb r1 with
        | none => rw [e3] at eb; cases eb
        | some f2 =>
          rw [e3, Option.bind_some] at eb
          have n13 : Nxt T a ⟨g1, h1, b.s, r1⟩ := nb.trans n1
          refine hb.so B ⟨g1, h1, b.s, r1⟩ _ f2 o1 e3 ?_
          cases f2 with
          | nx r3 => exact fun c oc nc ec => ⟨c, rfl, rfl, oc, n13.trans nc, by rw [ec]; exact eb⟩
          | ct r3 => exact fun c oc nc ec => ⟨c, rfl, rfl, oc, n13.trans nc, by rw [ec]; exact eb⟩
          | bk r3 =>
            cases eb
            exact fun c oc nc ec => k c oc (n13.trans nc) ec
          | rt v r3 =>
            cases eb
            exact fun v c oc nc ec q => k v c oc (n13.trans nc) ec q
      | false =>
        rw [if_neg Bool.false_ne_true] at eb ⊢
        cases eb
        exact k ⟨g1, h1, b.s, r1⟩ o1 (nb.trans n1) rfl⟩
end

/-! ### list comprehensions -/
def dropS (i : Nat) (r : Ev) : Option Ev := match r[i]? with
  | some (some (.ow false _)) => none
  | _ => some (r.set i none)
def wipeS : List Nat → Ev → Option Ev
  | [], r => some r
  | v :: vs, r => (wipeS vs r).bind (dropS v)
def lcF (g : FG) (ft : FT) (fe : FH) (vs : List Nat) : List D → Ev → Option (List D × Ev)
  | [], r => (wipeS vs r).map fun r1 => ([], r1)
  | x :: xs, r => (wipeS vs r).bind fun r1 => (g x r1).bind fun r2 => (ft r2).bind fun p => if p.1 = true then (fe p.2).bind fun q => (lcF g ft fe vs xs q.2).map fun z => (q.1 :: z.1, z.2) else lcF g ft fe vs xs p.2
def fLc (fi : FO) (g : FG) (ft : FT) (fe : FH) (vs : List Nat) : FO := fun r => (fi r).bind fun p => if p.1.length ≤ BIG then lcF g ft fe vs p.1 p.2 else none
def fYes : FT := fun r => some (true, r)
structure QTs (X : Cx) (K : PySem.W.Frag) (T : Addr → Prop) (ifs : List Expr) (t : TT) (f : FT) : Prop where
  k : X.K = K
  pt : PTs X ifs t
  so : STt K T t f
section
variable {X : Cx} {K : PySem.W.Frag} {T : Addr → Prop}
theorem qts_nil (hk : X.K = K := by rfl) : QTs X K T [] tYes fYes := ⟨hk, pts_nil, fun B a c r' Q o ef k => by
  cases ef
  exact k a.g a.h o .refl⟩
theorem qts_one {c : Expr} {t : TT} {f : FT} (h : QT X K T c t f) : QTs X K T [c] t f := ⟨h.k, pts_one h.pt, h.so⟩
theorem wipeS_ok {B : Addr → Prop} : ∀ (vs : List Nat) (a : Sx) (r' : Ev), Ok K T B a → wipeS vs a.r = some r' → Ok K T B ⟨a.g, a.h, wipe a.s vs, r'⟩ ∧ Nxt T a ⟨a.g, a.h, wipe a.s vs, r'⟩
  | [], a, r', o, e => by
    cases e
    exact ⟨o, .refl⟩
  | v :: vs, a, r', o, e => by
    unfold wipeS at e
    cases e1 : wipeS vs a.r with
    | none => rw [e1] at e; cases e
    | some r1 =>
      rw [e1, Option.bind_some] at e
      obtain ⟨o1, n1⟩ := wipeS_ok vs a r1 o e1
      unfold dropS at e
      split at e
      · cases e
      · rename_i nx
        cases e
        exact ⟨o1.drop (x := none), n1.trans (Nxt.drop (x := none) fun ds z => nx _ z)⟩
theorem wipeS_none : ∀ (vs : List Nat) (r r' : Ev), wipeS vs r = some r' → ∀ i ∈ vs, ∀ x, r'[i]? ≠ some (some x)
  | [], _, _, _, _, h, _ => by cases h
  | v :: vs, r, r', e, i, hi, x => by
    unfold wipeS at e
    cases e1 : wipeS vs r with
    | none => rw [e1] at e; cases e
    | some r1 =>
      rw [e1, Option.bind_some] at e
      unfold dropS at e
      split at e
      · cases e
      · cases e
        intro z
        rcases set_get z with ⟨_, z2⟩ | ⟨ne, z2⟩
        · cases z2
        · rcases List.mem_cons.mp hi with rfl | hi
          · exact ne rfl
          · exact wipeS_none vs r r1 e1 i hi x z2
theorem wipe_get {σ : L2.St} : ∀ {vs : List Nat} {i : Nat}, i ∉ vs → (wipe σ vs)[i]? = σ[i]?
  | [], _, _ => rfl
  | v :: vs, i, h => by
    unfold wipe
    rw [List.getElem?_set_ne fun z => h (by rw [z]; exact List.mem_cons_self)]
    exact wipe_get fun z => h (List.mem_cons_of_mem _ z)
theorem wipe_in {σ : L2.St} : ∀ {vs : List Nat} {i : Nat}, i ∈ vs → i < σ.length → (wipe σ vs)[i]? = some none
  | v :: vs, i, h, hl => by
    unfold wipe
    by_cases z : v = i
    · subst z
      exact List.getElem?_set_self (by rw [wipe_length]; exact hl)
    · rw [List.getElem?_set_ne z]
      rcases List.mem_cons.mp h with e | h
      · exact absurd e.symm z
      · exact wipe_in h hl
theorem wipe_eq {σ τ : L2.St} {vs : List Nat} (hl : τ.length = σ.length) (h : ∀ j, j ∉ vs → τ[j]? = σ[j]?) : wipe τ vs = wipe σ vs := by
  apply List.ext_getElem?
  intro i
  by_cases hi : i ∈ vs
  · by_cases hz : i < σ.length
    · rw [wipe_in hi hz, wipe_in hi (by rw [hl]; exact hz)]
    · rw [List.getElem?_eq_none (by rw [wipe_length]; omega), List.getElem?_eq_none (by rw [wipe_length]; omega)]
  · rw [wipe_get hi, wipe_get hi, h i hi]
theorem wipe_wipe {σ : L2.St} {vs : List Nat} : wipe (wipe σ vs) vs = wipe σ vs := wipe_eq (by rw [wipe_length]) fun j hj => wipe_get hj
theorem lcF_len {g : FG} {ft : FT} {fe : FH} {vs : List Nat} : ∀ (xs : List D) (r : Ev) (ys : List D) (r' : Ev), lcF g ft fe vs xs r = some (ys, r') → ys.length ≤ xs.length
  | [], r, ys, r', e => by
    unfold lcF at e
    cases e1 : wipeS vs r with
    | none => rw [e1] at e; cases e
    | some r1 =>
      rw [e1] at e
      cases e
      exact Nat.le_refl _
  | x :: xs, r, ys, r', e => by
    unfold lcF at e
    cases e1 : wipeS vs r with
    | none => rw [e1] at e; cases e
    | some r1 =>
      rw [e1, Option.bind_some] at e
      cases e2 : g x r1 with
      | none => rw [e2] at e; cases e
      | some r2 =>
        rw [e2, Option.bind_some] at e
        cases e3 : ft r2 with
        | none => rw [e3] at e; cases e
        | some p =>
          rw [e3, Option.bind_some] at e
          split at e
          · cases e4 : fe p.2 with
            | none => rw [e4] at e; cases e
            | some q =>
              rw [e4, Option.bind_some] at e
              cases e5 : lcF g ft fe vs xs q.2 with
              | none => rw [e5] at e; cases e
              | some z =>
                rw [e5] at e
                cases e
                have := lcF_len xs q.2 z.1 z.2 (by rw [e5])
                rw [List.length_cons, List.length_cons]
                omega
          · have := lcF_len xs p.2 ys r' e
            rw [List.length_cons]
            omega
theorem so_lc {raw : Bool} {wi : TI} {tt : TG} {tif : TT} {te : TE} {fi : FO} {g : FG} {ft : FT} {fe : FH} {is vs : List Nat} (hi : SI K T raw wi fi) (hg : SG K T raw tt g is) (ht : STt K T tif ft) (he : SH K T te fe) (hsub : ∀ i ∈ is, i ∈ vs) : SO K T (tLc wi tt tif te vs) (fLc fi g ft fe vs) := fun B a ys r' Q o ef k => by
  unfold fLc at ef
  cases e1 : fi a.r with
  | none => rw [e1] at ef; cases ef
  | some q =>
    obtain ⟨xs, r1⟩ := q
    rw [e1, Option.bind_some] at ef
    split at ef
    · rename_i hz
      refine hi B a xs r1 _ o e1 fun J g1 h1 o1 n1 it => ?_
      intro D hD
      have hD : h1 D = none := hD
      have aD : a.h D = none := n1.dm D hD
      have okD := o1.newH (u := .lst []) hD
      have nxD : Nxt T a ⟨g1, upd h1 D (.lst []), a.s, r1⟩ := n1.trans (o1.newH_nxt hD)
      -- the turns: what is left of the comprehension gives the rest
      refine ⟨fun i m H => m = xs.length - i ∧ i ≤ xs.length ∧ ∃ (b : Sx) (ws : List V) (ds rest : List PyData), b.h = H ∧ wipe b.s vs = wipe a.s vs ∧ b.s.length = a.s.length ∧ (∀ j, j ∉ vs → b.s[j]? = a.s[j]?) ∧ Ok K T B b ∧ Nxt T a b ∧ Sub g1 b.g ∧ b.h D = some (.lst ws) ∧ b.g D = none ∧ ¬ Tied b D ∧ DpAll K b.g ws ds ∧ ds.length ≤ i ∧ ds ++ rest = ys ∧ lcF g ft fe vs (xs.drop i) b.r = some (rest, r'),
        ⟨xs.length, rfl, Nat.zero_le _, ⟨g1, upd h1 D (.lst []), a.s, r1⟩, [], [], ys, rfl, rfl, rfl, fun _ _ => rfl, okD, nxD, .refl, upd_same, o1.gn hD, o1.untied hD, .nil, Nat.le_refl _, rfl, ef⟩, ?_⟩
      rintro i m H ⟨rfl, hi', b, ws, ds, rest, rfl, hw, hl, hj, ob, nb, sb, eD, gD, wD, xD, lD, eys, eb⟩
      by_cases hlt : i < xs.length
      · rw [drop_cons hlt] at eb
        unfold lcF at eb
        cases e2 : wipeS vs b.r with
        | none => rw [e2] at eb; cases eb
        | some r2 =>
          rw [e2, Option.bind_some] at eb
          obtain ⟨o2, n2⟩ := wipeS_ok vs b r2 ob e2
          rw [hw] at o2 n2
          have nb2 := nb.trans n2
          obtain ⟨_, j2⟩ := it B ⟨b.g, b.h, wipe a.s vs, r2⟩ o2 sb
          obtain ⟨jg, jy⟩ := j2 i xs[i] (List.getElem?_eq_getElem hlt)
          obtain ⟨eD2, gD2, wD2⟩ := n2.fr D _ gD (ob.lstT eD) wD eD
          refine .inr ⟨jg, fun H' => ∃ (b : Sx) (ws : List V) (ds rest : List PyData), b.h = H' ∧ wipe b.s vs = wipe a.s vs ∧ b.s.length = a.s.length ∧ (∀ j, j ∉ vs → b.s[j]? = a.s[j]?) ∧ Ok K T B b ∧ Nxt T a b ∧ Sub g1 b.g ∧ b.h D = some (.lst ws) ∧ b.g D = none ∧ ¬ Tied b D ∧ DpAll K b.g ws ds ∧ ds.length ≤ i + 1 ∧ ds ++ rest = ys ∧ lcF g ft fe vs (xs.drop (i + 1)) b.r = some (rest, r'),
            fun H' q => ⟨xs.length - (i + 1), by omega, rfl, hlt, q⟩, fun x H' y => ?_⟩
          obtain ⟨g3, o3, n3, yl⟩ := jy x H' y
          obtain ⟨eD3, gD3, wD3⟩ := n3.fr D _ gD2 (o2.lstT eD2) wD2 eD2
          cases e3 : g xs[i] r2 with
          | none => rw [e3] at eb; cases eb
          | some r3 =>
            rw [e3, Option.bind_some] at eb
            refine hg B ⟨g3, H', wipe a.s vs, r2⟩ x _ r3 _ o3 yl e3 fun g4 h4 s4 o4 n4 l4 j4 => ?_
            obtain ⟨eD4, gD4, wD4⟩ := n4.fr D _ gD3 (o3.lstT eD3) wD3 eD3
            have l4' : s4.length = a.s.length := by rw [l4, wipe_length]
            have j4' : ∀ j, j ∉ vs → s4[j]? = a.s[j]? := fun j hj => (j4 j fun z => hj (hsub j z)).trans (wipe_get hj)
            have hw4 : wipe s4 vs = wipe a.s vs := wipe_eq l4' j4'
            refine ⟨hw4, ?_⟩
            cases e4 : ft r3 with
            | none => rw [e4] at eb; cases eb
            | some p =>
              obtain ⟨c, r5⟩ := p
              rw [e4, Option.bind_some] at eb
              refine ht B ⟨g4, h4, s4, r3⟩ c r5 _ o4 e4 fun g5 h5 o5 n5 => ?_
              obtain ⟨eD5, gD5, wD5⟩ := n5.fr D _ gD4 (o4.lstT eD4) wD4 eD4
              have n25 := nb2.trans (n3.trans (n4.trans n5))
              have s25 : Sub g1 g5 := sb.trans (n3.le.trans (n4.le.trans n5.le))
              have x25 : DpAll K g5 ws ds := dpa_sub (n3.le.trans (n4.le.trans n5.le)) xD
              cases c with
              | true =>
                rw [if_pos rfl] at eb ⊢
                cases e6 : fe r5 with
                | none => rw [e6] at eb; cases eb
                | some q =>
                  obtain ⟨yd, r6⟩ := q
                  rw [e6, Option.bind_some] at eb
                  cases e7 : lcF g ft fe vs (xs.drop (i + 1)) r6 with
                  | none => rw [e7] at eb; cases eb
                  | some z =>
                    obtain ⟨zs, r7⟩ := z
                    rw [e7] at eb
                    cases eb
                    refine he B ⟨g5, h5, s4, r5⟩ yd r6 _ o5 e6 fun v g6 h6 o6 n6 x6 => ?_
                    obtain ⟨eD6, gD6, wD6⟩ := n6.fr D _ gD5 (o5.lstT eD5) wD5 eD5
                    have lw : ws.length = ds.length := dpa_len x25
                    refine ⟨ws, eD6, by rw [lw, sizeLine_eq]; have hz2 : xs.length ≤ 1000000 := hz; omega, ⟨g6, upd h6 D (.lst (ws ++ [v])), s4, r6⟩, ws ++ [v], ds ++ [yd], zs, rfl, hw4, l4', j4', o6.putH eD6 gD6 wD6, (n25.trans n6).putH aD, s25.trans n6.le, upd_same, gD6, wD6, dpa_snoc (dpa_sub n6.le x25) x6, by rw [List.length_append, List.length_singleton]; omega, ?_, e7⟩
                    rw [← eys, List.append_assoc]
                    rfl
              | false =>
                rw [if_neg Bool.false_ne_true] at eb ⊢
                exact ⟨⟨g5, h5, s4, r5⟩, ws, ds, rest, rfl, hw4, l4', j4', o5, n25, s25, eD5, gD5, wD5, x25, by omega, eys, eb⟩
      · have ei : i = xs.length := by omega
        subst ei
        rw [List.drop_length] at eb
        unfold lcF at eb
        cases e2 : wipeS vs b.r with
        | none => rw [e2] at eb; cases eb
        | some r2 =>
          rw [e2] at eb
          obtain ⟨rfl, rfl⟩ : [] = rest ∧ r2 = r' := by
            cases eb
            exact ⟨rfl, rfl⟩
          obtain ⟨o2, n2⟩ := wipeS_ok vs b r2 ob e2
          obtain ⟨eD2, gD2, wD2⟩ := n2.fr D _ gD (ob.lstT eD) wD eD
          rw [hw] at o2 n2 wD2
          have live : ∀ (i : Nat) x, r2[i]? = some (some x) → a.s[i]? = (wipe a.s vs)[i]? := fun i x e => by
            by_cases hi : i ∈ vs
            · exact absurd e (wipeS_none vs b.r r2 e2 i hi x)
            · exact (wipe_get hi).symm
          obtain ⟨j1, _⟩ := it B ⟨b.g, b.h, wipe a.s vs, r2⟩ o2 sb
          rw [List.append_nil] at eys
          subst eys
          exact .inl ⟨j1 _ (Nat.le_refl _), k D ws b.g b.h (o2.res (by rw [wipe_length]) live) ((nb.trans n2).res live) aD eD gD (fun z => wD2 (Tied.res live z)) xD⟩
    · cases ef
theorem qo_lc {elt tg iter : Expr} {ifs : List Expr} {scope : Scope} {own : List (Str × Nat)} {pos : Pos} {raw : Bool} {wi : TI} {tt : TG} {tif : TT} {te : TE} {fi : FO} {g : FG} {ft : FT} {fe : FH} {is : List Nat} (hc : X.calm = true) (hN : X.N.Nodup) (hi : QI X K T raw tg iter wi fi) (ok : BlkOk X.N X.env.scope scope own)
    (hg : ∀ (s : Shared) (H : Hp) (C : Addr) (cl : List (Str × Addr)) (fp : List Addr), QG (X.blk s H scope (compEnvC scope cl C X.env) fp) K T raw tg tt g is) (ht : ∀ (s : Shared) (H : Hp) (C : Addr) (cl : List (Str × Addr)) (fp : List Addr), QTs (X.blk s H scope (compEnvC scope cl C X.env) fp) K T ifs tif ft)
    (he : ∀ (s : Shared) (H : Hp) (C : Addr) (cl : List (Str × Addr)) (fp : List Addr), QH (X.blk s H scope (compEnvC scope cl C X.env) fp) K T elt te fe) (hsub : ∀ i ∈ is, i ∈ own.map (·.2)) (hs : ∀ x, foldedSetIterable iter X.env x = pure x := by intro _; rfl) :
    QO X K T (.ListComp elt [⟨tg, iter, ifs, 0⟩] scope pos) (tLc wi tt tif te (own.map (·.2))) (fLc fi g ft fe (own.map (·.2))) :=
  let z : Shared := {}
  ⟨hi.k, pe_lc hc hN hi.pi ok (fun s H C cl fp => (hg s H C cl fp).pg) (fun s H C cl fp => (ht s H C cl fp).pt) (fun s H C cl fp => (he s H C cl fp).pe) hs, so_lc hi.so (hg z (fun _ => none) 0 [] []).so (ht z (fun _ => none) 0 [] []).so (he z (fun _ => none) 0 [] []).so hsub⟩
end
end Pv

set_option Elab.async false
set_option linter.all false
set_option maxRecDepth 100000
set_option maxHeartbeats 2000000
namespace Pv
open PySem PySem.Spec PyProof.Rows L2 Lb

/-! ### what a def promises -/
structure Pre (K : PySem.W.Frag) (T : Addr → Prop) (g H : Hp) : Prop where
  tab : ∀ t, T t → GxR.TabG H t
  gT : ∀ t, T t → g t = none
  le : Sub g H
  kn : ∀ p u, g p = some u → Kn u
structure Post (K : PySem.W.Frag) (T Y : Addr → Prop) (g H g' H' : Hp) : Prop where
  pre : Pre K T g' H'
  le : Sub g g'
  dm : ∀ p, H' p = none → H p = none
  fr : ∀ p u, ¬ Y p → g p = none → ¬ T p → H p = some u → H' p = some u ∧ g' p = none
def noY : Addr → Prop := fun _ => False
def spH (K : PySem.W.Frag) (T : Addr → Prop) (n : Nat) (f : List D → Option D) : Sp := fun vs H Q _ => ∃ g ds d, Pre K T g H ∧ ds.length = n ∧ DpAll K g vs ds ∧ f ds = some d ∧ ∀ v g' H', Post K T noY g H g' H' → Dp K g' v d → Q v H'
def spO (K : PySem.W.Frag) (T : Addr → Prop) (n : Nat) (f : List D → Option (List D)) : Sp := fun vs H Q _ => ∃ g ds zs, Pre K T g H ∧ ds.length = n ∧ DpAll K g vs ds ∧ f ds = some zs ∧ ∀ p us g' H', Post K T noY g H g' H' → H p = none → H' p = some (.lst us) → g' p = none → DpAll K g' us zs → Q (.ref p) H'
def spPH (K : PySem.W.Frag) (T : Addr → Prop) (n : Nat) (f : List D → List D → Option (D × List D)) : Sp := fun vs H Q _ => ∃ g q us pot ws ds d pot', vs = .ref q :: ws ∧ H q = some (.lst us) ∧ g q = none ∧ DpAll K g us pot ∧ Pre K T g H ∧ ds.length = n ∧ DpAll K g ws ds ∧ f pot ds = some (d, pot') ∧
  ∀ v g' H' us', Post K T (fun p => p = q) g H g' H' → H' q = some (.lst us') → g' q = none → DpAll K g' us' pot' → Dp K g' v d → Q v H'
def spPO (K : PySem.W.Frag) (T : Addr → Prop) (n : Nat) (f : List D → List D → Option (List D × List D)) : Sp := fun vs H Q _ => ∃ g q us pot ws ds zs pot', vs = .ref q :: ws ∧ H q = some (.lst us) ∧ g q = none ∧ DpAll K g us pot ∧ Pre K T g H ∧ ds.length = n ∧ DpAll K g ws ds ∧ f pot ds = some (zs, pot') ∧
  ∀ p vs' g' H' us', Post K T (fun p => p = q) g H g' H' → H' q = some (.lst us') → g' q = none → DpAll K g' us' pot' → H p = none → H' p = some (.lst vs') → g' p = none → DpAll K g' vs' zs → Q (.ref p) H'
def argsE (n : Nat) (ds : List D) : Ev := ds.map (fun d => some (Sl.sh d)) ++ List.replicate (n - ds.length) none
def argsP (n : Nat) (pot ds : List D) : Ev := some (Sl.ow false pot) :: ds.map (fun d => some (Sl.sh d)) ++ List.replicate (n - (ds.length + 1)) none
def fnH (n : Nat) (g : FS) (ds : List D) : Option D := (g (argsE n ds)).bind fun fl => match fl with | .rt (.sh d) _ => some d | .nx _ => some .none | _ => none
def fnO (n : Nat) (g : FS) (ds : List D) : Option (List D) := (g (argsE n ds)).bind fun fl => match fl with | .rt (.ow true zs) _ => some zs | _ => none
def potOf (r : Ev) : Option (List D) := match r[0]? with | some (some (Sl.ow false ds)) => some ds | _ => none
def fnPH (n : Nat) (g : FS) (pot ds : List D) : Option (D × List D) := (g (argsP n pot ds)).bind fun fl => match fl with | .rt (.sh d) r => (potOf r).map fun p => (d, p) | .nx r => (potOf r).map fun p => (.none, p) | _ => none
def fnPO (n : Nat) (g : FS) (pot ds : List D) : Option (List D × List D) := (g (argsP n pot ds)).bind fun fl => match fl with | .rt (.ow true zs) r => (potOf r).map fun p => (zs, p) | _ => none

section
variable {K : PySem.W.Frag} {T B : Addr → Prop} {a b : Sx} {g H g' H' : Hp}
theorem Ok.pre (o : Ok K T B a) : Pre K T a.g a.h := ⟨o.tab, o.gT, o.le, o.kn⟩
theorem map_get {α β : Type} {l : List α} {f : α → β} {i : Nat} {y : β} {m : Nat} {z : β} (h : (l.map f ++ List.replicate m z)[i]? = some y) : (∃ x, l[i]? = some x ∧ f x = y) ∨ (l.length ≤ i ∧ y = z) := by
  by_cases hi : i < l.length
  · rw [List.getElem?_append_left (by rw [List.length_map]; exact hi), List.getElem?_map] at h
    cases e : l[i]? with
    | none => rw [e] at h; cases h
    | some x =>
      rw [e] at h
      cases h
      exact .inl ⟨x, rfl, rfl⟩
  · rw [List.getElem?_append_right (by rw [List.length_map]; omega)] at h
    have := List.mem_replicate.mp (List.mem_of_getElem? h)
    exact .inr ⟨by omega, this.2⟩
theorem ok_start {N : List Str} {vs : List V} {ds : List D} (p : Pre K T g H) (x : DpAll K g vs ds) : Ok K T (fun p => H p ≠ none) ⟨g, H, L2.start N vs, argsE N.length ds⟩ := by
  have noo : ∀ (i : Nat) b es, (argsE N.length ds)[i]? ≠ some (some (Sl.ow b es)) := fun i b es e => by
    rcases map_get e with ⟨d, _, z⟩ | ⟨_, z⟩ <;> cases z
  refine ⟨p.tab, p.gT, p.le, ?_, fun p h => h, p.kn, fun i d e => ?_, fun i b es e => absurd e (noo i b es), fun i j p ⟨⟨b, es, e⟩, _⟩ => absurd e (noo i b es)⟩
  · show (argsE N.length ds).length = (L2.start N vs).length
    unfold argsE L2.start
    rw [List.length_append, List.length_append, List.length_map, List.length_map, List.length_replicate, List.length_replicate, dpa_len x]
  · rcases map_get e with ⟨d', e1, z⟩ | ⟨_, z⟩
    · cases z
      obtain ⟨v, ev, xv⟩ := dpa_get x e1
      refine ⟨v, ?_, xv⟩
      show (L2.start N vs)[i]? = _
      unfold L2.start
      rw [List.getElem?_append_left (by rw [List.length_map]; exact (List.getElem?_eq_some_iff.mp ev).1), List.getElem?_map, ev]
      rfl
    · cases z
theorem ok_startP {N : List Str} {q : Addr} {us vs : List V} {pot ds : List D} (p : Pre K T g H) (eq : H q = some (.lst us)) (gq : g q = none) (y : DpAll K g us pot) (x : DpAll K g vs ds) : Ok K T (fun p => H p ≠ none) ⟨g, H, L2.start N (.ref q :: vs), argsP N.length pot ds⟩ := by
  have st : L2.start N (V.ref q :: vs) = some (V.ref q) :: (vs.map some ++ List.replicate (N.length - (vs.length + 1)) none) := by
    unfold L2.start
    rw [List.map_cons, List.length_cons]
    rfl
  have at0 : ∀ (i : Nat) b es, (argsP N.length pot ds)[i]? = some (some (Sl.ow b es)) → i = 0 ∧ b = false ∧ es = pot := fun i b es e => by
    cases i with
    | zero =>
      have e : some (some (Sl.ow false pot)) = some (some (Sl.ow b es)) := e
      cases e
      exact ⟨rfl, rfl, rfl⟩
    | succ i =>
      have e : (ds.map (fun d => some (Sl.sh d)) ++ List.replicate (N.length - (ds.length + 1)) none)[i]? = some (some (Sl.ow b es)) := e
      rcases map_get e with ⟨d, _, z⟩ | ⟨_, z⟩ <;> cases z
  refine ⟨p.tab, p.gT, p.le, ?_, fun p h => h, p.kn, fun i d e => ?_, fun i b es e => ?_, fun i j p ⟨⟨b, es, e⟩, _⟩ ⟨⟨b2, es2, e2⟩, _⟩ => (at0 i b es e).1.trans (at0 j b2 es2 e2).1.symm⟩
  · show (argsP N.length pot ds).length = (L2.start N (V.ref q :: vs)).length
    rw [st]
    unfold argsP
    simp only [List.length_append, List.length_cons, List.length_map, List.length_replicate, dpa_len x]
    omega
  · cases i with
    | zero =>
      have e : some (some (Sl.ow false pot)) = some (some (Sl.sh d)) := e
      cases e
    | succ i =>
      have e : (ds.map (fun d => some (Sl.sh d)) ++ List.replicate (N.length - (ds.length + 1)) none)[i]? = some (some (Sl.sh d)) := e
      rcases map_get e with ⟨d', e1, z⟩ | ⟨_, z⟩
      · cases z
        obtain ⟨v, ev, xv⟩ := dpa_get x e1
        refine ⟨v, ?_, xv⟩
        show (L2.start N (V.ref q :: vs))[i + 1]? = _
        rw [st, List.getElem?_cons_succ, List.getElem?_append_left (by rw [List.length_map]; exact (List.getElem?_eq_some_iff.mp ev).1), List.getElem?_map, ev]
        rfl
      · cases z
  · obtain ⟨rfl, rfl, rfl⟩ := at0 i b es e
    exact ⟨q, us, by show (L2.start N (V.ref q :: vs))[0]? = _; rw [st]; rfl, eq, gq, (fun z => by cases z), y⟩
theorem Ok.post (o : Ok K T B b) (n : Nxt T a b) {Y : Addr → Prop} (h : ∀ p, Tied a p → Y p) : Post K T Y a.g a.h b.g b.h :=
  ⟨o.pre, n.le, n.dm, fun p u ny g t e => by
    obtain ⟨e1, g1, _⟩ := n.fr p u g t (fun z => ny (h p z)) e
    exact ⟨e1, g1⟩⟩
theorem untied_start {N : List Str} {vs : List V} {ds : List D} (p : Addr) : ¬ Tied ⟨g, H, L2.start N vs, argsE N.length ds⟩ p := fun ⟨i, ⟨b, es, e⟩, _⟩ => by
  rcases map_get e with ⟨d, _, z⟩ | ⟨_, z⟩ <;> cases z
theorem tied_startP {N : List Str} {q : Addr} {vs : List V} {pot ds : List D} {p : Addr} (h : Tied ⟨g, H, L2.start N (.ref q :: vs), argsP N.length pot ds⟩ p) : p = q := by
  obtain ⟨i, ⟨b, es, e⟩, s⟩ := h
  cases i with
  | zero =>
    have s : some (some (V.ref q)) = some (some (V.ref p)) := s
    cases s
    rfl
  | succ i =>
    have e : (ds.map (fun d => some (Sl.sh d)) ++ List.replicate (N.length - (ds.length + 1)) none)[i]? = some (some (Sl.ow b es)) := e
    rcases map_get e with ⟨d, _, z⟩ | ⟨_, z⟩ <;> cases z
/-- behind a call -/
theorem Ok.call (o : Ok K T B a) (P : Post K T noY a.g a.h g' H') : Ok K T B ⟨g', H', a.s, a.r⟩ := by
  refine ⟨P.pre.tab, P.pre.gT, P.pre.le, o.len, fun p hp e => o.dom p hp (P.dm p e), P.pre.kn, fun i d e => ?_, fun i b ds e => ?_, o.inj⟩
  · obtain ⟨v, s, x⟩ := o.sh i d e
    exact ⟨v, s, dp_sub P.le x⟩
  · obtain ⟨p, vs, s, h, g, nb, x⟩ := o.ow i b ds e
    obtain ⟨h2, g2⟩ := P.fr p _ (fun z => z) g (o.lstT h) h
    exact ⟨p, vs, s, h2, g2, nb, dpa_sub P.le x⟩
theorem Ok.call_nxt (P : Post K T noY a.g a.h g' H') : Nxt T a ⟨g', H', a.s, a.r⟩ :=
  ⟨P.dm, P.le, fun p u g t w e => by
    obtain ⟨h2, g2⟩ := P.fr p u (fun z => z) g t e
    exact ⟨h2, g2, w⟩, fun i ds e => ⟨⟨ds, e⟩, rfl⟩⟩
theorem Ok.callP (o : Ok K T B a) {i : Nat} {bb : Bool} {ds ds' : List D} {q : Addr} {us' : List V} (er : a.r[i]? = some (some (Sl.ow bb ds))) (es : a.s[i]? = some (some (V.ref q))) (P : Post K T (fun p => p = q) a.g a.h g' H') (eq : H' q = some (.lst us')) (gq : g' q = none) (x : DpAll K g' us' ds') :
    Ok K T B ⟨g', H', a.s, a.r.set i (some (.ow bb ds'))⟩ ∧ Nxt T a ⟨g', H', a.s, a.r.set i (some (.ow bb ds'))⟩ := by
  have li : i < a.r.length := (List.getElem?_eq_some_iff.mp er).1
  obtain ⟨q', vs', s', hq', gq', nb', _⟩ := o.ow i bb ds er
  rw [es] at s'
  cases s'
  have key : ∀ j p, Own ⟨g', H', a.s, a.r.set i (some (.ow bb ds'))⟩ j p → Own a j p := fun j p ⟨⟨b2, d2, e2⟩, s2⟩ => by
    rcases set_get (l := a.r) e2 with ⟨rfl, z⟩ | ⟨_, z⟩
    · exact ⟨⟨bb, ds, er⟩, s2⟩
    · exact ⟨⟨b2, d2, z⟩, s2⟩
  have own : Own a i q := ⟨⟨bb, ds, er⟩, es⟩
  refine ⟨⟨P.pre.tab, P.pre.gT, P.pre.le, by simpa using o.len, fun p hp e => o.dom p hp (P.dm p e), P.pre.kn, fun j d e => ?_, fun j b d2 e => ?_, fun j k p h1 h2 => o.inj j k p (key j p h1) (key k p h2)⟩, ⟨P.dm, P.le, fun p u g t w e => ?_, fun j d2 e => ?_⟩⟩
  · rcases set_get (l := a.r) e with ⟨_, z⟩ | ⟨_, e⟩
    · cases z
    · obtain ⟨v, s, y⟩ := o.sh j d e
      exact ⟨v, s, dp_sub P.le y⟩
  · rcases set_get (l := a.r) e with ⟨rfl, z⟩ | ⟨ne, e⟩
    · cases z
      exact ⟨q, us', es, eq, gq, nb', x⟩
    · obtain ⟨p, vs, s, h, g, nb, y⟩ := o.ow j b d2 e
      have pq : p ≠ q := fun z => ne (o.inj i j q own ⟨⟨b, d2, e⟩, by rw [s, z]⟩)
      obtain ⟨h2, g2⟩ := P.fr p _ pq g (o.lstT h) h
      exact ⟨p, vs, s, h2, g2, nb, dpa_sub P.le y⟩
  · have pq : p ≠ q := fun z => w ⟨i, by rw [z]; exact own⟩
    obtain ⟨h2, g2⟩ := P.fr p u pq g t e
    exact ⟨h2, g2, fun ⟨j, hj⟩ => w ⟨j, key j p hj⟩⟩
  · by_cases z : i = j
    · subst z
      rw [er] at e
      cases e
      exact ⟨⟨ds', set_lt li⟩, rfl⟩
    · exact ⟨⟨d2, by show (a.r.set i _)[j]? = _; rw [List.getElem?_set_ne z]; exact e⟩, rfl⟩
end

/-! ### defs -/
section
variable {P : Program} {w : World} {K : PySem.W.Frag} {mg : Str → Option Value} {base : Heap} {T : Addr → Prop} {x : Str} {st : Stmt} {f : Addr} {fd : FuncData} {N ps : List Str} {k : Nat} {g : FS}
abbrev bodyX (P : Program) (w : World) (K : PySem.W.Frag) (mg : Str → Option Value) (base : Heap) (N : List Str) (x : Str) (st : Stmt) (f : Addr) (cdv : Value) (A : Around) (outer : List Env) (s : Shared) (H : Hp) (E : XK) : Cx := (cxOf CX0 P w K mg base N x (defScope st) f cdv A outer s H E).nox
def BodyOk (P : Program) (w : World) (K : PySem.W.Frag) (mg : Str → Option Value) (base : Heap) (T : Addr → Prop) (N : List Str) (x : Str) (st : Stmt) (f : Addr) (k : Nat) (g : FS) : Prop :=
  ∀ (cdv : Value) (A : Around) (outer : List Env) (s : Shared) (H : Hp) (E : XK), A.guards = some [] → Room k (A.deeper (envOfC x (defScope st) s.heap.objs.size f cdv)) → ∃ t, QSs (bodyX P w K mg base N x st f cdv A outer s H E) K T (defBody st) t g
theorem okH (F : Fun K x x st f fd) (S : FnScope N ps (defScope st)) (body : BodyOk P w K mg base T N x st f k g) : FnG P w K mg base (k + 1) f fd ps (spH K T ps.length (fnH N.length g)) := by
  refine okG F S (fun vs H Q E h => ?_) fun cdv A outer s H vs Q E hg hr h => ?_
  · obtain ⟨_, ds, d, _, hl, hd, _⟩ := h
    rw [dpa_len hd, hl]
  · obtain ⟨g0, ds, d, pre, hl, hd, ef, q⟩ := h
    obtain ⟨t, ht⟩ := body cdv A outer s H E hg hr
    refine ⟨t, ht.ps, ?_⟩
    unfold fnH at ef
    cases e1 : g (argsE N.length ds) with
    | none => rw [e1] at ef; cases ef
    | some fl =>
      rw [e1, Option.bind_some] at ef
      refine ht.so _ ⟨g0, H, L2.start N vs, argsE N.length ds⟩ { nx := fun _ H' => Q .non H', rt := Q } fl (ok_start pre hd) e1 ?_
      cases fl with
      | nx r =>
        cases ef
        exact fun b ob nb _ => q .non b.g b.h (ob.post nb fun p z => untied_start p z) .non
      | rt x r =>
        cases x with
        | sh d' =>
          cases ef
          exact fun v b ob nb _ x => q v b.g b.h (ob.post nb fun p z => untied_start p z) x
        | ow c zs => cases ef
      | bk r => cases ef
      | ct r => cases ef
theorem okO (F : Fun K x x st f fd) (S : FnScope N ps (defScope st)) (body : BodyOk P w K mg base T N x st f k g) : FnG P w K mg base (k + 1) f fd ps (spO K T ps.length (fnO N.length g)) := by
  refine okG F S (fun vs H Q E h => ?_) fun cdv A outer s H vs Q E hg hr h => ?_
  · obtain ⟨_, ds, d, _, hl, hd, _⟩ := h
    rw [dpa_len hd, hl]
  · obtain ⟨g0, ds, zs, pre, hl, hd, ef, q⟩ := h
    obtain ⟨t, ht⟩ := body cdv A outer s H E hg hr
    refine ⟨t, ht.ps, ?_⟩
    unfold fnO at ef
    cases e1 : g (argsE N.length ds) with
    | none => rw [e1] at ef; cases ef
    | some fl =>
      rw [e1, Option.bind_some] at ef
      refine ht.so _ ⟨g0, H, L2.start N vs, argsE N.length ds⟩ { nx := fun _ H' => Q .non H', rt := Q } fl (ok_start pre hd) e1 ?_
      cases fl with
      | rt x r =>
        cases x with
        | sh d' => cases ef
        | ow c zs' =>
          cases c with
          | false => cases ef
          | true =>
            cases ef
            intro v b ob nb _ ⟨p, us, ev, e2, g2, nB, _, y⟩
            subst ev
            refine q p us b.g b.h (ob.post nb fun p z => untied_start p z) ?_ e2 g2 y
            cases e3 : H p with
            | none => rfl
            | some u => exact (nB fun z => by rw [e3] at z; cases z).elim
      | nx r => cases ef
      | bk r => cases ef
      | ct r => cases ef
theorem pot_at {B : Addr → Prop} {a b : Sx} (ob : Ok K T B b) (nb : Nxt T a b) {q : Addr} {pot pot' : List D} (e0 : a.r[0]? = some (some (Sl.ow false pot))) (s0 : a.s[0]? = some (some (V.ref q))) (ep : potOf b.r = some pot') : ∃ us', b.h q = some (.lst us') ∧ b.g q = none ∧ DpAll K b.g us' pot' := by
  obtain ⟨⟨ds', e1⟩, s1⟩ := nb.pot 0 pot e0
  unfold potOf at ep
  rw [e1] at ep
  cases ep
  obtain ⟨p, vs, s2, h, g, _, x⟩ := ob.ow 0 false _ e1
  rw [s1, s0] at s2
  cases s2
  exact ⟨vs, h, g, x⟩
theorem okPH {p0 : Str} (F : Fun K x x st f fd) (S : FnScope N (p0 :: ps) (defScope st)) (body : BodyOk P w K mg base T N x st f k g) : FnG P w K mg base (k + 1) f fd (p0 :: ps) (spPH K T ps.length (fnPH N.length g)) := by
  refine okG F S (fun vs H Q E h => ?_) fun cdv A outer s H vs Q E hg hr h => ?_
  · obtain ⟨_, q, us, pot, ws, ds, d, pot', rfl, _, _, _, _, hl, hd, _⟩ := h
    rw [List.length_cons, List.length_cons, dpa_len hd, hl]
  · obtain ⟨g0, q, us, pot, ws, ds, d, pot', rfl, eq, gq, hp, pre, hl, hd, ef, k⟩ := h
    obtain ⟨t, ht⟩ := body cdv A outer s H E hg hr
    refine ⟨t, ht.ps, ?_⟩
    unfold fnPH at ef
    cases e1 : g (argsP N.length pot ds) with
    | none => rw [e1] at ef; cases ef
    | some fl =>
      rw [e1, Option.bind_some] at ef
      refine ht.so _ ⟨g0, H, L2.start N (.ref q :: ws), argsP N.length pot ds⟩ { nx := fun _ H' => Q .non H', rt := Q } fl (ok_startP pre eq gq hp hd) e1 ?_
      have s0 : (L2.start N (V.ref q :: ws))[0]? = some (some (V.ref q)) := rfl
      cases fl with
      | nx r =>
        cases e2 : potOf r with
        | none => simp [e2] at ef
        | some z =>
          simp only [e2, Option.map_some, Option.some.injEq, Prod.mk.injEq] at ef
          obtain ⟨rfl, rfl⟩ := ef
          intro b ob nb er
          subst er
          obtain ⟨us', h1, h2, h3⟩ := pot_at ob nb rfl s0 e2
          exact k .non b.g b.h us' (ob.post nb fun p z => tied_startP z) h1 h2 h3 .non
      | rt x r =>
        cases x with
        | sh d' =>
          cases e2 : potOf r with
          | none => simp [e2] at ef
          | some z =>
            simp only [e2, Option.map_some, Option.some.injEq, Prod.mk.injEq] at ef
            obtain ⟨rfl, rfl⟩ := ef
            intro v b ob nb er x
            subst er
            obtain ⟨us', h1, h2, h3⟩ := pot_at ob nb rfl s0 e2
            exact k v b.g b.h us' (ob.post nb fun p z => tied_startP z) h1 h2 h3 x
        | ow c zs => cases ef
      | bk r => cases ef
      | ct r => cases ef
theorem okPO {p0 : Str} (F : Fun K x x st f fd) (S : FnScope N (p0 :: ps) (defScope st)) (body : BodyOk P w K mg base T N x st f k g) : FnG P w K mg base (k + 1) f fd (p0 :: ps) (spPO K T ps.length (fnPO N.length g)) := by
  refine okG F S (fun vs H Q E h => ?_) fun cdv A outer s H vs Q E hg hr h => ?_
  · obtain ⟨_, q, us, pot, ws, ds, d, pot', rfl, _, _, _, _, hl, hd, _⟩ := h
    rw [List.length_cons, List.length_cons, dpa_len hd, hl]
  · obtain ⟨g0, q, us, pot, ws, ds, zs, pot', rfl, eq, gq, hp, pre, hl, hd, ef, k⟩ := h
    obtain ⟨t, ht⟩ := body cdv A outer s H E hg hr
    refine ⟨t, ht.ps, ?_⟩
    unfold fnPO at ef
    cases e1 : g (argsP N.length pot ds) with
    | none => rw [e1] at ef; cases ef
    | some fl =>
      rw [e1, Option.bind_some] at ef
      refine ht.so _ ⟨g0, H, L2.start N (.ref q :: ws), argsP N.length pot ds⟩ { nx := fun _ H' => Q .non H', rt := Q } fl (ok_startP pre eq gq hp hd) e1 ?_
      have s0 : (L2.start N (V.ref q :: ws))[0]? = some (some (V.ref q)) := rfl
      cases fl with
      | rt x r =>
        cases x with
        | sh d' => cases ef
        | ow c zs' =>
          cases c with
          | false => cases ef
          | true =>
            cases e2 : potOf r with
            | none => simp [e2] at ef
            | some z =>
              simp only [e2, Option.map_some, Option.some.injEq, Prod.mk.injEq] at ef
              obtain ⟨rfl, rfl⟩ := ef
              intro v b ob nb er ⟨p, us2, ev, e3, g3, nB, _, y⟩
              subst er ev
              obtain ⟨us', h1, h2, h3⟩ := pot_at ob nb rfl s0 e2
              refine k p us2 b.g b.h us' (ob.post nb fun p z => tied_startP z) h1 h2 h3 ?_ e3 g3 y
              cases e4 : H p with
              | none => rfl
              | some u => exact (nB fun z => by rw [e4] at z; cases z).elim
      | nx r => cases ef
      | bk r => cases ef
      | ct r => cases ef
end

/-! ### calls -/
/-- a def under its name, with its promise -/
structure Cg (P : Program) (w : World) (K : PySem.W.Frag) (mg : Str → Option Value) (base : Heap) (k : Nat) (x : Str) (ps : List Str) (sp : Sp) : Prop where
  ex : ∃ f fd, FnG P w K mg base k f fd ps sp ∧ mg x = some (.ref f) ∧ PySem.W.keepIn K (.ref f) = true ∧ Binds K fd ps []
structure CgK (P : Program) (w : World) (K : PySem.W.Frag) (mg : Str → Option Value) (base : Heap) (k : Nat) (x : Str) (ps ks : List Str) (g : List Value → List Value → List Value) (gV : List V → List V → List V) (sp : Sp) : Prop where
  ex : ∃ f fd, FnG P w K mg base k f fd ps sp ∧ mg x = some (.ref f) ∧ PySem.W.keepIn K (.ref f) = true ∧ KBinds K fd ps ks g gV
section
variable {X : Cx} {k : Nat} {f : Addr} {fd : FuncData} {ps ks : List Str} {sp : Sp} {x : Str} {p pos : Pos} {e : Expr} {es : List Expr} {t : TA}
theorem pe_cg (C : Cg X.prog X.w X.K X.mg X.base k x ps sp) (hu : X.A.guards = some []) (hr : Room k X.A) (hg : Gl X x) (ha : PA X (e :: es) t)
    (hdb : (x == ("__debug__" : Str)) = false := by decide) (he : starEach (e :: es) X.env = (false, eval e X.env) :: starEach es X.env := by rfl) (hpl : (backTo pos (starEach es X.env)).any (·.1) = false := by rfl) :
    PE X (.Call (.Name x p) (e :: es) [] pos) (tCall sp [] E0 t) := by
  obtain ⟨f, fd, h1, h2, h3, h4⟩ := C.ex
  exact pe_callG h1 hu hr hg h2 h3 h4 ha hdb he hpl
theorem pe_cg0 (C : Cg X.prog X.w X.K X.mg X.base k x ps sp) (hu : X.A.guards = some []) (hr : Room k X.A) (hg : Gl X x) (hdb : (x == ("__debug__" : Str)) = false := by decide) : PE X (.Call (.Name x p) [] [] pos) (tCall sp [] E0 tNil) := by
  obtain ⟨f, fd, F, hm, hk, hb⟩ := C.ex
  refine ⟨fun pins s σ H Q I h => wpAny_Call_Name_kw (ld_glob I hg hm ?_ hdb)⟩
  refine PySem.W.callWith_K0 I.kIn hk ?_
  have h : sp [] H Q E0 := h
  have hl : ([] ++ [] : List Value).length = ps.length := F.len _ _ _ _ h
  refine wpAny_call (codeAny_mono (F.run X.A X.stack s H ⟨[], []⟩ [] [] Q E0 hu hr I.env0 (hb s [] I.kIn hl) .nil h) fun z s' hq => ?_)
  match z, hq with
  | .ok (.ret u), hq => exact I.after hq
theorem pe_cgK {kws : List Keyword} {tk : TA} {g : List Value → List Value → List Value} {gV : List V → List V → List V} (C : CgK X.prog X.w X.K X.mg X.base k x ps ks g gV sp) (hu : X.A.guards = some []) (hr : Room k X.A) (hg : Gl X x)
    (hkw : PK X kws tk) (hall : (backToKw pos (keywordEach kws X.env)).all (·.1.isSome) = true := by rfl) (hks : (backToKw pos (keywordEach kws X.env)).filterMap (·.1) = ks := by rfl)
    (hdb : (x == ("__debug__" : Str)) = false := by decide) (hpl : ((backTo pos (starEach [] X.env)).any (·.1) || (backToKw pos (keywordEach kws X.env)).any (·.1.isNone)) = false := by rfl) :
    PE X (.Call (.Name x p) [] kws pos) (tCallK sp gV E0 tNil tk) := by
  obtain ⟨f, fd, F, hm, hk, hb⟩ := C.ex
  refine ⟨fun pins s σ H Q I h => wpAny_Call_Name_kw (ld_glob I hg hm ?_ hdb)⟩
  refine PySem.W.callWith_KW0 (h₀ := X.base) I.ok.mod.kin hk hall (thn (hkw.run pos pins s σ H _ I h) fun ws s2 ⟨zs, H2, I2, rz, q2⟩ => ⟨I2.kIn, ?_⟩) hpl
  rw [hks]
  have q2 : sp (gV [] zs) H2 Q E0 := q2
  have r2 := hb.rel .nil rz
  have hl : (g [] ws).length = ps.length := by rw [← r2.length]; exact F.len _ _ _ _ q2
  refine wpAny_call (codeAny_mono (F.run X.A X.stack s2 H2 ⟨[], ks.zip ws⟩ (g [] ws) (gV [] zs) Q E0 hu hr I2.env0 (hb.to s2 [] ws I2.kIn hl) r2 q2) fun z s' hq => ?_)
  match z, hq with
  | .ok (.ret u), hq => exact I2.after hq
end
end Pv

set_option Elab.async false
set_option linter.all false
set_option maxRecDepth 100000
set_option maxHeartbeats 2000000
namespace Pv
open PySem PySem.Spec PyProof.Rows L2 Lb

/-! ### calls of the text's own defs -/
def fCall (n : Nat) (f : List D → Option D) (h : FO) : FH := fun r => (h r).bind fun p => if p.1.length = n then (f p.1).map fun d => (d, p.2) else none
def fCallO (n : Nat) (f : List D → Option (List D)) (h : FO) : FO := fun r => (h r).bind fun p => if p.1.length = n then (f p.1).map fun d => (d, p.2) else none
def isOw (r : Ev) (i : Nat) : Bool := match r[i]? with
  | some (some (Sl.ow _ _)) => true
  | _ => false
def owOf (r : Ev) (i : Nat) : Option (Bool × List D) := match r[i]? with
  | some (some (Sl.ow b ds)) => some (b, ds)
  | _ => none
theorem owOf_eq {r : Ev} {i : Nat} {z : Bool × List D} (h : owOf r i = some z) : r[i]? = some (some (Sl.ow z.1 z.2)) := by
  unfold owOf at h
  split at h
  · rename_i e
    cases h
    exact e
  · cases h
theorem isOw_eq {r : Ev} {i : Nat} (h : isOw r i = true) : ∃ b ds, r[i]? = some (some (Sl.ow b ds)) := by
  unfold isOw at h
  split at h
  · rename_i e
    exact ⟨_, _, e⟩
  · cases h
def fCallP (i n : Nat) (f : List D → List D → Option (D × List D)) (h : FO) : FH := fun r => if isOw r i = true then (h r).bind fun p => if p.1.length = n then ((owOf p.2 i).bind fun z => (f z.2 p.1).map fun q => (q.1, p.2.set i (some (Sl.ow z.1 q.2)))) else none else none
def fCallPO (i n : Nat) (f : List D → List D → Option (List D × List D)) (h : FO) : FO := fun r => if isOw r i = true then (h r).bind fun p => if p.1.length = n then ((owOf p.2 i).bind fun z => (f z.2 p.1).map fun q => (q.1, p.2.set i (some (Sl.ow z.1 q.2)))) else none else none
/-- the pot is made right there -/
def fCallE (n : Nat) (f : List D → List D → Option (D × List D)) (e h : FO) : FH := fun r => (e r).bind fun z => (h z.2).bind fun p => if p.1.length = n then (f z.1 p.1).map fun q => (q.1, p.2) else none
section
variable {K : PySem.W.Frag} {T : Addr → Prop} {t : TA} {te : TE} {n : Nat}
theorem dpa_appnil {g : Hp} {vs : List V} {ds : List D} (h : DpAll K g vs ds) : DpAll K g (vs ++ []) ds := by
  rw [List.append_nil]
  exact h
theorem sh_call {f : List D → Option D} {h : FO} (ha : SA K T t h) : SH K T (tCall (spH K T n f) [] E0 t) (fCall n f h) := fun B a d r' Q o ef k => by
  unfold fCall at ef
  cases e1 : h a.r with
  | none => rw [e1] at ef; cases ef
  | some q =>
    obtain ⟨ds, r1⟩ := q
    rw [e1, Option.bind_some] at ef
    split at ef
    · rename_i hl
      cases e2 : f ds with
      | none => simp [e2] at ef
      | some d1 =>
        simp only [e2, Option.map_some, Option.some.injEq, Prod.mk.injEq] at ef
        obtain ⟨rfl, rfl⟩ := ef
        refine ha B a ds r1 _ o e1 fun vs g1 h1 o1 n1 x1 => ?_
        exact ⟨g1, ds, d1, o1.pre, hl, dpa_appnil x1, e2, fun v g2 h2 P x2 => k v g2 h2 (o1.call P) (n1.trans (Ok.call_nxt P)) x2⟩
    · cases ef
theorem so_call {f : List D → Option (List D)} {h : FO} (ha : SA K T t h) : SO K T (tCall (spO K T n f) [] E0 t) (fCallO n f h) := fun B a zs r' Q o ef k => by
  unfold fCallO at ef
  cases e1 : h a.r with
  | none => rw [e1] at ef; cases ef
  | some q =>
    obtain ⟨ds, r1⟩ := q
    rw [e1, Option.bind_some] at ef
    split at ef
    · rename_i hl
      cases e2 : f ds with
      | none => simp [e2] at ef
      | some d1 =>
        simp only [e2, Option.map_some, Option.some.injEq, Prod.mk.injEq] at ef
        obtain ⟨rfl, rfl⟩ := ef
        refine ha B a ds r1 _ o e1 fun vs g1 h1 o1 n1 x1 => ?_
        exact ⟨g1, ds, d1, o1.pre, hl, dpa_appnil x1, e2, fun p us g2 h2 P hp e3 gp x2 => k p us g2 h2 (o1.call P) (n1.trans (Ok.call_nxt P)) (n1.dm p hp) e3 gp (o1.untied hp) x2⟩
    · cases ef
theorem sh_callP {i : Nat} {f : List D → List D → Option (D × List D)} {h : FO} (ha : SA K T t h) : SH K T (tCall (spPH K T n f) [] E0 (tCons (tVar i) t)) (fCallP i n f h) := fun B a d r' Q o ef k => by
  unfold fCallP at ef
  split at ef
  · rename_i ow
    obtain ⟨b0, pot0, ei0⟩ := isOw_eq ow
    obtain ⟨p0, _, ev, _⟩ := o.ow i b0 pot0 ei0
    cases e1 : h a.r with
    | none => rw [e1] at ef; cases ef
    | some q =>
      obtain ⟨ds, r1⟩ := q
      rw [e1, Option.bind_some] at ef
      split at ef
      · rename_i hl
        cases ez : owOf r1 i with
        | none => simp [ez] at ef
        | some z =>
          obtain ⟨b, pot⟩ := z
          simp only [ez, Option.bind_some] at ef
          have ei := owOf_eq ez
          cases e2 : f pot ds with
          | none => simp [e2] at ef
          | some q =>
            obtain ⟨d1, pot'⟩ := q
            simp only [e2, Option.map_some, Option.some.injEq, Prod.mk.injEq] at ef
            obtain ⟨rfl, rfl⟩ := ef
            refine ⟨.ref p0, ev, ha B a ds r1 _ o e1 fun vs g1 h1 o1 n1 x1 => ?_⟩
            obtain ⟨p, us, s, hp, gp, _, xp⟩ := o1.ow i b pot ei
            have s : a.s[i]? = some (some (.ref p)) := s
            rw [ev] at s
            cases s
            refine ⟨g1, p0, us, pot, vs ++ [], ds, d1, pot', rfl, hp, gp, xp, o1.pre, hl, dpa_appnil x1, e2, fun v g2 h2 us' P e3 g3 x3 x2 => ?_⟩
            obtain ⟨o2, n2⟩ := o1.callP ei ev P e3 g3 x3
            exact k v g2 h2 o2 (n1.trans n2) x2
      · cases ef
  · cases ef
theorem so_callP {i : Nat} {f : List D → List D → Option (List D × List D)} {h : FO} (ha : SA K T t h) : SO K T (tCall (spPO K T n f) [] E0 (tCons (tVar i) t)) (fCallPO i n f h) := fun B a d r' Q o ef k => by
  unfold fCallPO at ef
  split at ef
  · rename_i ow
    obtain ⟨b0, pot0, ei0⟩ := isOw_eq ow
    obtain ⟨p0, _, ev, _⟩ := o.ow i b0 pot0 ei0
    cases e1 : h a.r with
    | none => rw [e1] at ef; cases ef
    | some q =>
      obtain ⟨ds, r1⟩ := q
      rw [e1, Option.bind_some] at ef
      split at ef
      · rename_i hl
        cases ez : owOf r1 i with
        | none => simp [ez] at ef
        | some z =>
          obtain ⟨b, pot⟩ := z
          simp only [ez, Option.bind_some] at ef
          have ei := owOf_eq ez
          cases e2 : f pot ds with
          | none => simp [e2] at ef
          | some q =>
            obtain ⟨d1, pot'⟩ := q
            simp only [e2, Option.map_some, Option.some.injEq, Prod.mk.injEq] at ef
            obtain ⟨rfl, rfl⟩ := ef
            refine ⟨.ref p0, ev, ha B a ds r1 _ o e1 fun vs g1 h1 o1 n1 x1 => ?_⟩
            obtain ⟨p, us, s, hp, gp, _, xp⟩ := o1.ow i b pot ei
            have s : a.s[i]? = some (some (.ref p)) := s
            rw [ev] at s
            cases s
            refine ⟨g1, p0, us, pot, vs ++ [], ds, d1, pot', rfl, hp, gp, xp, o1.pre, hl, dpa_appnil x1, e2, fun p2 vs' g2 h2 us' P e3 g3 x3 hp2 e4 g4 x4 => ?_⟩
            obtain ⟨o2, n2⟩ := o1.callP ei ev P e3 g3 x3
            refine k p2 vs' g2 h2 o2 (n1.trans n2) (n1.dm p2 hp2) e4 g4 (fun ⟨j, ⟨b2, d2, e5⟩, s5⟩ => ?_) x4
            -- no name holds a place that was free
            rcases set_get (l := r1) e5 with ⟨rfl, _⟩ | ⟨_, e5⟩
            · have s5 : a.s[i]? = some (some (.ref p2)) := s5
              rw [ev] at s5
              cases s5
              rw [show h1 _ = _ from hp] at hp2
              cases hp2
            · exact o1.untied hp2 ⟨j, ⟨b2, d2, e5⟩, s5⟩
      · cases ef
  · cases ef
theorem sh_callE {f : List D → List D → Option (D × List D)} {e h : FO} (he : SO K T te e) (ha : SA K T t h) : SH K T (tCall (spPH K T n f) [] E0 (tCons te t)) (fCallE n f e h) := fun B a d r' Q o ef k => by
  unfold fCallE at ef
  cases e0 : e a.r with
  | none => rw [e0] at ef; cases ef
  | some z =>
    obtain ⟨pot, r0⟩ := z
    rw [e0, Option.bind_some] at ef
    cases e1 : h r0 with
    | none => rw [e1] at ef; cases ef
    | some q =>
      obtain ⟨ds, r1⟩ := q
      rw [e1, Option.bind_some] at ef
      split at ef
      · rename_i hl
        cases e2 : f pot ds with
        | none => simp [e2] at ef
        | some q =>
          obtain ⟨d1, pot'⟩ := q
          simp only [e2, Option.map_some, Option.some.injEq, Prod.mk.injEq] at ef
          obtain ⟨rfl, rfl⟩ := ef
          refine he B a pot r0 _ o e0 fun p us g0 h0 o0 n0 hp ep gp wp xp => ?_
          refine ha B ⟨g0, h0, a.s, r0⟩ ds r1 _ o0 e1 fun vs g1 h1 o1 n1 x1 => ?_
          obtain ⟨ep1, gp1, wp1⟩ := n1.fr p _ gp (o0.lstT ep) wp ep
          refine ⟨g1, p, us, pot, vs ++ [], ds, d1, pot', rfl, ep1, gp1, dpa_sub n1.le xp, o1.pre, hl, dpa_appnil x1, e2, fun v g2 h2 us' P e3 g3 x3 x2 => ?_⟩
          -- the pot is left behind, nothing holds it
          have fr : ∀ q u, q ≠ p → g1 q = none → ¬ T q → h1 q = some u → h2 q = some u ∧ g2 q = none := fun q u nq gq tq eq => P.fr q u nq gq tq eq
          have o2 : Ok K T B ⟨g2, h2, a.s, r1⟩ := by
            refine ⟨P.pre.tab, P.pre.gT, P.pre.le, o1.len, fun q hq e => o1.dom q hq (P.dm q e), P.pre.kn, fun i d e => ?_, fun i b ds e => ?_, o1.inj⟩
            · obtain ⟨v, s, x⟩ := o1.sh i d e
              exact ⟨v, s, dp_sub P.le x⟩
            · obtain ⟨q, vs, s, hq, gq, nb, x⟩ := o1.ow i b ds e
              have nq : q ≠ p := fun z => wp1 ⟨i, ⟨b, ds, e⟩, by rw [← z]; exact s⟩
              obtain ⟨hq2, gq2⟩ := fr q _ nq gq (o1.lstT hq) hq
              exact ⟨q, vs, s, hq2, gq2, nb, dpa_sub P.le x⟩
          refine k v g2 h2 o2 ⟨fun q e => n0.dm q (n1.dm q (P.dm q e)), n0.le.trans (n1.le.trans P.le), fun q u gq tq wq eq => ?_, fun i ds e => ?_⟩ x2
          · obtain ⟨e4, g4, w4⟩ := (n0.trans n1).fr q u gq tq wq eq
            obtain ⟨e5, g5⟩ := fr q u (ne_of_none eq hp) g4 tq e4
            exact ⟨e5, g5, w4⟩
          · exact (n0.trans n1).pot i ds e
      · cases ef
end
section
variable {X : Cx} {K : PySem.W.Frag} {T : Addr → Prop} {k n : Nat} {x : Str} {ps ks : List Str} {p pos : Pos} {e : Expr} {es : List Expr} {t : TA} {te : TE}
theorem qh_call {f : List D → Option D} {h : FO} (C : Cg X.prog X.w X.K X.mg X.base k x ps (spH K T n f)) (hu : X.A.guards = some []) (hr : Room k X.A) (hg : Gl X x) (ha : QA X K T (e :: es) t h)
    (hdb : (x == ("__debug__" : Str)) = false := by decide) (he : starEach (e :: es) X.env = (false, eval e X.env) :: starEach es X.env := by rfl) (hpl : (backTo pos (starEach es X.env)).any (·.1) = false := by rfl) :
    QH X K T (.Call (.Name x p) (e :: es) [] pos) (tCall (spH K T n f) [] E0 t) (fCall n f h) := ⟨ha.k, pe_cg C hu hr hg ha.pa hdb he hpl, sh_call ha.so⟩
theorem qo_call {f : List D → Option (List D)} {h : FO} (C : Cg X.prog X.w X.K X.mg X.base k x ps (spO K T n f)) (hu : X.A.guards = some []) (hr : Room k X.A) (hg : Gl X x) (ha : QA X K T (e :: es) t h)
    (hdb : (x == ("__debug__" : Str)) = false := by decide) (he : starEach (e :: es) X.env = (false, eval e X.env) :: starEach es X.env := by rfl) (hpl : (backTo pos (starEach es X.env)).any (·.1) = false := by rfl) :
    QO X K T (.Call (.Name x p) (e :: es) [] pos) (tCall (spO K T n f) [] E0 t) (fCallO n f h) := ⟨ha.k, pe_cg C hu hr hg ha.pa hdb he hpl, so_call ha.so⟩
theorem qh_call0 {f : List D → Option D} (C : Cg X.prog X.w X.K X.mg X.base k x ps (spH K T 0 f)) (hu : X.A.guards = some []) (hr : Room k X.A) (hg : Gl X x) (hdb : (x == ("__debug__" : Str)) = false := by decide) (hk : X.K = K := by rfl) :
    QH X K T (.Call (.Name x p) [] [] pos) (tCall (spH K T 0 f) [] E0 tNil) (fCall 0 f fNil) := ⟨hk, pe_cg0 C hu hr hg hdb, sh_call (qa_nil hk).so⟩
theorem qo_call0 {f : List D → Option (List D)} (C : Cg X.prog X.w X.K X.mg X.base k x ps (spO K T 0 f)) (hu : X.A.guards = some []) (hr : Room k X.A) (hg : Gl X x) (hdb : (x == ("__debug__" : Str)) = false := by decide) (hk : X.K = K := by rfl) :
    QO X K T (.Call (.Name x p) [] [] pos) (tCall (spO K T 0 f) [] E0 tNil) (fCallO 0 f fNil) := ⟨hk, pe_cg0 C hu hr hg hdb, so_call (qa_nil hk).so⟩
theorem qh_callP {f : List D → List D → Option (D × List D)} {h : FO} (i : Nat) (C : Cg X.prog X.w X.K X.mg X.base k x ps (spPH K T n f)) (hu : X.A.guards = some []) (hr : Room k X.A) (hg : Gl X x) (hp : PE X e (tVar i)) (ha : QA X K T es t h)
    (hdb : (x == ("__debug__" : Str)) = false := by decide) (he : starEach (e :: es) X.env = (false, eval e X.env) :: starEach es X.env := by rfl) (hpl : (backTo pos (starEach es X.env)).any (·.1) = false := by rfl) :
    QH X K T (.Call (.Name x p) (e :: es) [] pos) (tCall (spPH K T n f) [] E0 (tCons (tVar i) t)) (fCallP i n f h) := ⟨ha.k, pe_cg C hu hr hg (pa_cons hp ha.pa he) hdb he hpl, sh_callP ha.so⟩
theorem qo_callP {f : List D → List D → Option (List D × List D)} {h : FO} (i : Nat) (C : Cg X.prog X.w X.K X.mg X.base k x ps (spPO K T n f)) (hu : X.A.guards = some []) (hr : Room k X.A) (hg : Gl X x) (hp : PE X e (tVar i)) (ha : QA X K T es t h)
    (hdb : (x == ("__debug__" : Str)) = false := by decide) (he : starEach (e :: es) X.env = (false, eval e X.env) :: starEach es X.env := by rfl) (hpl : (backTo pos (starEach es X.env)).any (·.1) = false := by rfl) :
    QO X K T (.Call (.Name x p) (e :: es) [] pos) (tCall (spPO K T n f) [] E0 (tCons (tVar i) t)) (fCallPO i n f h) := ⟨ha.k, pe_cg C hu hr hg (pa_cons hp ha.pa he) hdb he hpl, so_callP ha.so⟩
theorem qh_callE {f : List D → List D → Option (D × List D)} {fe h : FO} (C : Cg X.prog X.w X.K X.mg X.base k x ps (spPH K T n f)) (hu : X.A.guards = some []) (hr : Room k X.A) (hg : Gl X x) (hp : QO X K T e te fe) (ha : QA X K T es t h)
    (hdb : (x == ("__debug__" : Str)) = false := by decide) (he : starEach (e :: es) X.env = (false, eval e X.env) :: starEach es X.env := by rfl) (hpl : (backTo pos (starEach es X.env)).any (·.1) = false := by rfl) :
    QH X K T (.Call (.Name x p) (e :: es) [] pos) (tCall (spPH K T n f) [] E0 (tCons te t)) (fCallE n f fe h) := ⟨ha.k, pe_cg C hu hr hg (pa_cons hp.pe ha.pa he) hdb he hpl, sh_callE hp.so ha.so⟩
/-! keywords alone: as many as there are parameters, in the sequence that gD undoes -/
structure QK (X : Cx) (K : PySem.W.Frag) (T : Addr → Prop) (kws : List Keyword) (t : TA) (f : FO) : Prop where
  k : X.K = K
  pk : PK X kws t
  so : SA K T t f
theorem qk_nil (hk : X.K = K := by rfl) : QK X K T [] tNil fNil := ⟨hk, pk_nil, (qa_nil hk).so⟩
theorem qk_cons {nm : Option Str} {kpos : Pos} {kws : List Keyword} {f : FH} {g : FO} (hf : QH X K T e te f) (hg : QK X K T kws t g) : QK X K T (⟨nm, e, kpos⟩ :: kws) (tCons te t) (fCons f g) := ⟨hf.k, pk_cons hf.pe hg.pk, sa_cons hf.so hg.so⟩
def fMapA (gD : List D → List D) (h : FO) : FO := fun r => (h r).map fun p => (gD p.1, p.2)
def PermOk (K : PySem.W.Frag) (gV : List V → List V → List V) (gD : List D → List D) : Prop := ∀ g vs ds, DpAll K g vs ds → DpAll K g (gV [] vs) (gD ds)
theorem sh_callK {f : List D → Option D} {h : FO} {tk : TA} {gV : List V → List V → List V} {gD : List D → List D} (ha : SA K T tk h) (pm : PermOk K gV gD) : SH K T (tCallK (spH K T n f) gV E0 tNil tk) (fCall n f (fMapA gD h)) := fun B a d r' Q o ef k => by
  unfold fCall fMapA at ef
  cases e1 : h a.r with
  | none => simp [e1] at ef
  | some q =>
    obtain ⟨ds, r1⟩ := q
    simp only [e1, Option.map_some, Option.bind_some] at ef
    split at ef
    · rename_i hl
      cases e2 : f (gD ds) with
      | none => simp [e2] at ef
      | some d1 =>
        simp only [e2, Option.map_some, Option.some.injEq, Prod.mk.injEq] at ef
        obtain ⟨rfl, rfl⟩ := ef
        refine ha B a ds r1 _ o e1 fun vs g1 h1 o1 n1 x1 => ?_
        exact ⟨g1, gD ds, d1, o1.pre, hl, pm g1 vs ds x1, e2, fun v g2 h2 P x2 => k v g2 h2 (o1.call P) (n1.trans (Ok.call_nxt P)) x2⟩
    · cases ef
theorem so_callK {f : List D → Option (List D)} {h : FO} {tk : TA} {gV : List V → List V → List V} {gD : List D → List D} (ha : SA K T tk h) (pm : PermOk K gV gD) : SO K T (tCallK (spO K T n f) gV E0 tNil tk) (fCallO n f (fMapA gD h)) := fun B a zs r' Q o ef k => by
  unfold fCallO fMapA at ef
  cases e1 : h a.r with
  | none => simp [e1] at ef
  | some q =>
    obtain ⟨ds, r1⟩ := q
    simp only [e1, Option.map_some, Option.bind_some] at ef
    split at ef
    · rename_i hl
      cases e2 : f (gD ds) with
      | none => simp [e2] at ef
      | some d1 =>
        simp only [e2, Option.map_some, Option.some.injEq, Prod.mk.injEq] at ef
        obtain ⟨rfl, rfl⟩ := ef
        refine ha B a ds r1 _ o e1 fun vs g1 h1 o1 n1 x1 => ?_
        exact ⟨g1, gD ds, d1, o1.pre, hl, pm g1 vs ds x1, e2, fun p us g2 h2 P hp e3 gp x2 => k p us g2 h2 (o1.call P) (n1.trans (Ok.call_nxt P)) (n1.dm p hp) e3 gp (o1.untied hp) x2⟩
    · cases ef
theorem qh_callK {f : List D → Option D} {h : FO} {kws : List Keyword} {tk : TA} {g : List Value → List Value → List Value} {gV : List V → List V → List V} {gD : List D → List D} (C : CgK X.prog X.w X.K X.mg X.base k x ps ks g gV (spH K T n f)) (pm : PermOk K gV gD) (hu : X.A.guards = some []) (hr : Room k X.A) (hg : Gl X x) (ha : QK X K T kws tk h)
    (hall : (backToKw pos (keywordEach kws X.env)).all (·.1.isSome) = true := by rfl) (hks : (backToKw pos (keywordEach kws X.env)).filterMap (·.1) = ks := by rfl)
    (hdb : (x == ("__debug__" : Str)) = false := by decide) (hpl : ((backTo pos (starEach [] X.env)).any (·.1) || (backToKw pos (keywordEach kws X.env)).any (·.1.isNone)) = false := by rfl) :
    QH X K T (.Call (.Name x p) [] kws pos) (tCallK (spH K T n f) gV E0 tNil tk) (fCall n f (fMapA gD h)) := ⟨ha.k, pe_cgK C hu hr hg ha.pk hall hks hdb hpl, sh_callK ha.so pm⟩
theorem qo_callK {f : List D → Option (List D)} {h : FO} {kws : List Keyword} {tk : TA} {g : List Value → List Value → List Value} {gV : List V → List V → List V} {gD : List D → List D} (C : CgK X.prog X.w X.K X.mg X.base k x ps ks g gV (spO K T n f)) (pm : PermOk K gV gD) (hu : X.A.guards = some []) (hr : Room k X.A) (hg : Gl X x) (ha : QK X K T kws tk h)
    (hall : (backToKw pos (keywordEach kws X.env)).all (·.1.isSome) = true := by rfl) (hks : (backToKw pos (keywordEach kws X.env)).filterMap (·.1) = ks := by rfl)
    (hdb : (x == ("__debug__" : Str)) = false := by decide) (hpl : ((backTo pos (starEach [] X.env)).any (·.1) || (backToKw pos (keywordEach kws X.env)).any (·.1.isNone)) = false := by rfl) :
    QO X K T (.Call (.Name x p) [] kws pos) (tCallK (spO K T n f) gV E0 tNil tk) (fCallO n f (fMapA gD h)) := ⟨ha.k, pe_cgK C hu hr hg ha.pk hall hks hdb hpl, so_callK ha.so pm⟩
end
end Pv

set_option Elab.async false
set_option linter.all false
set_option maxRecDepth 100000
set_option maxHeartbeats 2000000
namespace Lb
open PySem PySem.Spec PyProof.Rows L2
open AutoSeq1 (wpAny_loadPart')

/-! ### for i, x in enumerate(t), t a tuple -/
theorem enum_newT (t : Addr) (items : Array Value) (n : Nat) (dd : Option Addr) (sl : Array (Option Value)) :
    Meets (Builtin.«enumerate.__new__» ⟨[.type "enumerate", .ref t], []⟩) (fun _ R s => s.heap.get? t = some ⟨.type "tuple", dd, .seq items n, sl⟩ ∧
      R (.ok (.ret (.ref (s.heap.push { cls := .type "tuple_iterator", data := .fields #[.ref t, .int 0 0] }).objs.size)))
        { s with heap := (s.heap.push { cls := .type "tuple_iterator", data := .fields #[.ref t, .int 0 0] }).push { cls := .type "enumerate", data := .fields #[.none, .bool false, .ref s.heap.objs.size, rawInt 0, .none, .none] } }) :=
  .of_wp fun prog w A R s h => by
    obtain ⟨hp, g, d, tk, os⟩ := s
    obtain ⟨ho, h⟩ := h
    have hsub := sub_enumerate
    have isT : Heap.IsTuple (Shared.heap ⟨hp, g, d, tk, os⟩) t items := ⟨_, ho, rfl, n, rfl⟩
    wp_walk using wpAny_loadPart' ho
    refine wpAny_stack_any fun st => wpAny_pure ?_
    split
    · rename_i c _ _ _ _ _
      cases (c == Value.type "enumerate") <;> (wp_walk using wpAny_loadPart' ho, wpAny_pyIter_tuple isT; exact ⟨_, rfl, h⟩)
    · wp_walk using wpAny_loadPart' ho, wpAny_pyIter_tuple isT
      exact ⟨_, rfl, h⟩
theorem call_enumT {P : Program} {w : World} {A : Around} {E : Value → Shared → Prop} {s : Shared} {t : Addr} {items : Array Value} {Q : Value → Shared → Prop} (ht : s.heap.IsTuple t items)
    (h : ∀ h', IsEnum h' (s.heap.objs.size + 1) s.heap.objs.size 0 .none → h'.IsTupleIter s.heap.objs.size t 0 → (∀ b o, s.heap.get? b = some o → h'.get? b = some o) → Q (.ref (s.heap.objs.size + 1)) { s with heap := h' }) :
    wpAny (model P w) A (call (.type "enumerate") [.ref t]) Q E s := by
  obtain ⟨⟨c, dd, dt, sl⟩, ho, hc, n, hd⟩ := ht
  have hc' : c = .type "tuple" := hc
  have hd' : dt = .seq items n := hd
  subst hc' hd'
  refine callType_new F.called_enumerate (by decide) (F.typeCall_enumerate_1 _) (F.newCall_enumerate_1 _) (fun obj => F.args_object_init_2 obj _) F.entry_enumerate_new (enum_newT t items n dd sl) ⟨ho, ?_⟩
  have z : (s.heap.push { cls := .type "tuple_iterator", data := .fields #[.ref t, .int 0 0] }).objs.size = s.heap.objs.size + 1 := Heap.size_push ..
  show _ ∧ _
  rw [z]
  have he : IsEnum ((s.heap.push { cls := .type "tuple_iterator", data := .fields #[.ref t, .int 0 0] }).push { cls := .type "enumerate", data := .fields #[.none, .bool false, .ref s.heap.objs.size, rawInt 0, .none, .none] }) (s.heap.objs.size + 1) s.heap.objs.size 0 .none := by
    have q := Heap.get?_push_size (s.heap.push { cls := .type "tuple_iterator", data := .fields #[.ref t, .int 0 0] }) (o := { cls := .type "enumerate", data := .fields #[.none, .bool false, .ref s.heap.objs.size, rawInt 0, .none, .none] }) rfl
    rw [z] at q
    exact q
  exact ⟨⟨_, he, rfl⟩, h _ he ⟨_, Heap.get?_push_of_some _ (Heap.get?_push_size _ rfl), rfl, rfl⟩ fun b o x => Heap.get?_push_of_some _ (Heap.get?_push_of_some _ x)⟩
/-- the places and things of the tuple at a, each pair a new tuple -/
def IteT (K : PySem.W.Frag) (a : Addr) : It :=
  ⟨fun i H => ∃ (xs : List V) (x : V), SqT K H a xs ∧ xs[i]? = some x, fun i H v H' => ∃ T x, v = .ref T ∧ H T = none ∧ H' = upd H T (.tup [.int (i : Nat), x]) ∧ ∀ xs, SqT K H a xs → xs[i]? = some x, fun i H => ∃ xs : List V, SqT K H a xs ∧ xs.length = i⟩
theorem turn_enumT {P : Program} {w : World} {K : PySem.W.Frag} {elts : List Expr} {kk : Nat} {tpos : Pos} (a e it : Addr) :
    Turn P w K (.Tuple elts kk tpos) (IteT K a) [e, it] e (fun i h => (∃ old, IsEnum h e it ((i : Nat) : Int) old) ∧ h.IsTupleIter it a i ∧ e ≠ it) where
  mem := .head _
  obj := fun i h ⟨⟨old, he⟩, ⟨o, ho, _, hd⟩, _⟩ b hb => by
    rcases List.mem_cons.mp hb with rfl | hb
    · exact ⟨_, he, fun v q => nomatch q⟩
    · cases List.mem_singleton.mp hb
      exact ⟨o, ho, fun v q => by rw [hd] at q; cases q⟩
  keep := fun i h h' ⟨⟨old, he⟩, hi, hne⟩ k => ⟨⟨old, k e (.head _) _ he⟩, hi.at fun o q => k it (.tail _ (.head _)) o q, hne⟩
  item := by
    intro X hP hw hK hc i pins s σ H E I hf ⟨⟨old, he⟩, hit, hne⟩ ⟨xs, x, hq, hx⟩
    subst hP hw hK
    obtain ⟨its, rv, p, hz⟩ := I.tuple hq
    have isT : s.heap.IsTuple a its.toArray := p
    obtain ⟨u, hu, ru⟩ := rv.get hx
    have el : e < s.heap.objs.size := Heap.lt_size he
    have il : it < s.heap.objs.size := let ⟨_, q, _⟩ := hit; Heap.lt_size q
    have a_it : a ≠ it := fun z => by
      obtain ⟨o1, e1, c1, _⟩ := isT
      obtain ⟨o2, e2, c2, _⟩ := hit
      rw [z, e2] at e1
      cases e1
      rw [c1] at c2
      exact absurd (Value.type.inj c2) (by decide)
    have a_e : e ≠ a := fun z => by
      obtain ⟨o1, e1, c1, _⟩ := isT
      have e2 : s.heap.get? e = some _ := he
      rw [z, e1] at e2
      cases e2
      exact absurd (Value.type.inj c1) (by decide)
    have hh := I.ok.hd hc
    have hi : i < its.toArray.size := by
      rw [List.size_toArray]
      exact (List.getElem?_eq_some_iff.mp hu).1
    refine wpAny_pyNext_enum_itemD (Draws.tuple (A := X.A.in1) hh it a a_it its.toArray) he ⟨hit, isT⟩ hi hne (fun z => ?_) fun y h' tk hy ho st' hT hsz hk => ?_
    · rcases List.mem_cons.mp z with z | z
      · exact hne z
      · exact a_e (List.mem_singleton.mp z)
    · have ey : y = u := by
        have z : its.toArray[i]? = some y := hy
        rw [List.getElem?_toArray, hu] at z
        exact (Option.some.inj z).symm
      subst ey
      refine ⟨_, rfl, wpAny_letOwnedTupleGo_enum (s := { s with heap := h', toks := tk + 1 }) ho fun h'' he' sb => ?_⟩
      have hT2 : h''.get? s.heap.objs.size = some { cls := .type "tuple", data := .seq #[.int i tk, y] } := (sb.2 _ (Nat.ne_of_gt el)).trans hT
      have I1 : L2.Inv X pins σ (upd H s.heap.objs.size (.tup [.int (i : Nat), x])) { s with heap := h'', toks := tk + 1 } := by
        refine I.turnedNew (ch := [e, it]) (fun b ob hb q => ?_) hf (Nat.le_refl _) ⟨by show 2 ≤ sizeLine; decide, [.int i tk, y], .cons ⟨_, rfl⟩ (.cons ru .nil), ⟨_, hT2, rfl, _, rfl⟩⟩
        have n1 : b ≠ e := fun z => hb (by rw [z]; exact .head _)
        have n2 : b ≠ it := fun z => hb (by rw [z]; exact .tail _ (.head _))
        exact (sb.2 b n1).trans (hk b ob n1 n2 q)
      refine ⟨.ref s.heap.objs.size, _, I1, rfl, ⟨_, x, rfl, I.hok.fresh (Nat.le_refl _), rfl, fun ys hy => by rw [I.tuple_inj hy hq]; exact hx⟩, ⟨⟨y, ?_⟩, st'.1.at fun o q => (sb.2 it hne.symm).trans q, hne⟩, fun b hb => ?_⟩
      · rw [show ((i + 1 : Nat) : Int) = (i : Int) + 1 by omega]
        exact he'
      · have hb' : b < s.heap.objs.size := by
          rcases List.mem_cons.mp hb with z | z
          · rw [z]
            exact el
          · rw [List.mem_singleton.mp z]
            exact il
        rw [upd_ne (Nat.ne_of_lt hb')]
        exact (hf b hb).1
  done := by
    intro X hP hw hK hc i pins s σ H E I hf ⟨⟨old, he⟩, hit, hne⟩ ⟨xs, hq, hx⟩
    subst hP hw hK
    obtain ⟨its, rv, p, hz⟩ := I.tuple hq
    have isT : s.heap.IsTuple a its.toArray := p
    have hh := I.ok.hd hc
    have lenI := rv.length
    have a_it : a ≠ it := fun z => by
      obtain ⟨o1, e1, c1, _⟩ := isT
      obtain ⟨o2, e2, c2, _⟩ := hit
      rw [z, e2] at e1
      cases e1
      rw [c1] at c2
      exact absurd (Value.type.inj c2) (by decide)
    have ei : its.toArray.size = i := by
      rw [List.size_toArray, ← lenI]
      exact hx
    obtain ⟨f0, f1, _, f3, f4, f5⟩ := hf it (.tail _ (.head _))
    refine wpAny_pyNext_enum_endD (Draws.tuple (A := X.A.in1) hh it a a_it its.toArray) he ⟨by rw [ei]; exact hit, isT⟩ fun h' eb => ⟨rfl, I.turned (t' := s.toks) (fun b o hb q => eb b o hb q) f0 f1 f3 f4 f5⟩
  self := fun A i s Q E ⟨⟨_, he⟩, _⟩ h => wpAny_pyIter_enum he h
def iEnumT (K : PySem.W.Frag) (ta : TA) : TI := fun σ H R => ta σ H fun vs H1 => ∃ a xs, vs = [.ref a] ∧ SqT K H1 a xs ∧ R (IteT K a) H1
theorem pi_enumT {X : Cx} {e : Expr} {ta : TA} {p pos tpos : Pos} {elts : List Expr} {kk : Nat} (hg : Gl X "enumerate") (hm : X.mg "enumerate" = none) (ha : PA X [e] ta) (hs : starEach [e] X.env = [(false, eval e X.env)] := by rfl) :
    PI X (.Tuple elts kk tpos) (.Call (.Name "enumerate" p) [e] [] pos) (iEnumT X.K ta) := by
  refine ⟨fun pins s σ H R I h => Call_ (ld_blt I hg hm boot_enumerate (PyProof.Rows.callWith_type1 (thn (ha.run pos pins s σ H _ I h) fun us s1 ⟨vs, H1, I1, r1, q1⟩ => ?_) hs rfl))⟩
  obtain ⟨a, xs, rfl, hq, q⟩ := q1
  rw [Vals.ref1 r1]
  obtain ⟨its, rv, p', hz⟩ := I1.tuple hq
  refine call_enumT (show s1.heap.IsTuple a its.toArray from p') fun h' he hit hk => wpAny_pyIter_enum he ?_
  refine ⟨s1.heap.objs.size + 1, [s1.heap.objs.size + 1, s1.heap.objs.size], _, _, H1, rfl, I1.kept (t' := s1.toks) hk, turn_enumT a (s1.heap.objs.size + 1) s1.heap.objs.size, ⟨⟨.none, he⟩, hit, Nat.succ_ne_self _⟩, fun b hb => ?_, q⟩
  have le : s1.heap.objs.size ≤ b := by
    rcases List.mem_cons.mp hb with z | z
    · rw [z]
      exact Nat.le_succ _
    · rw [List.mem_singleton.mp z]
      exact Nat.le_refl _
  exact I1.fpOk le (I1.hok.fresh le)
/-- the loop over enumerate(t): the pair is a new tuple at each turn -/
theorem for_enumT {K : PySem.W.Frag} {a : Addr} {xs : List V} {g : TG} {tb : TS} {D : Ends} {σ : L2.St} {H : Hp} (Pv : Nat → L2.St → Hp → Prop) (h0 : Pv 0 σ H) (hl : ∀ i σ H, i ≤ xs.length → Pv i σ H → SqT K H a xs)
    (hs : ∀ i x σ H T, xs[i]? = some x → Pv i σ H → H T = none → g (.ref T) σ (upd H T (.tup [.int (i : Nat), x])) fun σ2 H2 => tb { D with nx := Pv (i + 1), ct := Pv (i + 1), bk := D.nx } σ2 H2) (hd : ∀ σ H, Pv xs.length σ H → D.nx σ H) :
    ∃ W : Nat → Nat → L2.St → Hp → Prop, (∃ m, W 0 m σ H) ∧ ∀ i m σ H, W i m σ H →
      ((IteT K a).stop i H ∧ D.nx σ H) ∨ ((IteT K a).go i H ∧ ∃ N : L2.St → Hp → Prop, (∀ σ' H', N σ' H' → ∃ m', m' < m ∧ W (i + 1) m' σ' H') ∧ ∀ x H', (IteT K a).yld i H x H' → g x σ H' fun σ2 H2 => tb { D with nx := N, ct := N, bk := D.nx } σ2 H2) := by
  refine ⟨fun i m σ H => m = xs.length - i ∧ i ≤ xs.length ∧ Pv i σ H, ⟨_, rfl, Nat.zero_le _, h0⟩, ?_⟩
  rintro i m σ H ⟨rfl, hi, p⟩
  have sq := hl i σ H hi p
  by_cases hlt : i < xs.length
  · refine .inr ⟨⟨xs, xs[i], sq, List.getElem?_eq_getElem hlt⟩, Pv (i + 1), fun σ' H' p' => ⟨_, by omega, rfl, hlt, p'⟩, ?_⟩
    rintro x H' ⟨T, y, rfl, hT, rfl, hy⟩
    exact hs i y σ H T (hy xs sq) p hT
  · have e : i = xs.length := by omega
    subst e
    exact .inl ⟨⟨xs, sq, rfl⟩, hd σ H p⟩
end Lb

set_option Elab.async false
set_option linter.all false
set_option maxRecDepth 100000
set_option maxHeartbeats 2000000
namespace Pv
open PySem PySem.Spec PyProof.Rows L2 Lb

/-! ### built-ins of one argument -/
def f1 (fo : D → Option D) (f : FP) : FP := fun r => (f r).bind fo
def h1 (fo : D → Option D) (f : FH) : FH := fun r => (f r).bind fun p => (fo p.1).map fun z => (z, p.2)
def o1 (fo : D → Option (List D)) (f : FH) : FO := fun r => (f r).bind fun p => (fo p.1).map fun z => (z, p.2)
def UP (K : PySem.W.Frag) (T : Addr → Prop) (r : V → Hp → VK → Prop) (fo : D → Option D) : Prop := ∀ (B : Addr → Prop) (a : Sx) (x : V) (d z : D) (Q : VK), Ok K T B a → RepB K a x d → fo d = some z → (∀ v g' h', Ok K T B ⟨g', h', a.s, a.r⟩ → Nxt T a ⟨g', h', a.s, a.r⟩ → Dp K g' v z → Q v h') → r x a.h Q
def UO (K : PySem.W.Frag) (T : Addr → Prop) (r : V → Hp → VK → Prop) (fo : D → Option (List D)) : Prop := ∀ (B : Addr → Prop) (a : Sx) (x : V) (d : D) (zs : List D) (Q : VK), Ok K T B a → RepB K a x d → fo d = some zs → (∀ p vs, a.h p = none → DpAll K a.g vs zs → Q (.ref p) (upd a.h p (.lst vs))) → r x a.h Q
def t1B (r : List V → Hp → VK → Prop) (t : TE) : TE := tCB r (tCons t tNil)
section
variable {K : PySem.W.Frag} {T : Addr → Prop} {te : TE} {r : V → Hp → VK → Prop} {rr : List V → Hp → VK → Prop}
theorem sp_u {fo : D → Option D} {f : FP} (u : UP K T r fo) (ha : SB K T te f) : SP K T (tThen te r) (f1 fo f) := fun B a d Q o ef k => by
  unfold f1 at ef
  cases e1 : f a.r with
  | none => rw [e1] at ef; cases ef
  | some x =>
    rw [e1, Option.bind_some] at ef
    refine ha B a x _ o e1 fun v g1 h1 o1 n1 r1 => ?_
    exact u B ⟨g1, h1, a.s, a.r⟩ v x d Q o1 r1 ef fun w g2 h2 o2 n2 x2 => k w g2 h2 o2 (n1.trans n2) x2
theorem sh_u {fo : D → Option D} {f : FH} (u : UP K T r fo) (ha : SH K T te f) : SH K T (tThen te r) (h1 fo f) := fun B a d r' Q o ef k => by
  unfold Pv.h1 at ef
  cases e1 : f a.r with
  | none => rw [e1] at ef; cases ef
  | some q =>
    obtain ⟨x, r1⟩ := q
    rw [e1, Option.bind_some] at ef
    cases e2 : fo x with
    | none => simp [e2] at ef
    | some z =>
      simp only [e2, Option.map_some, Option.some.injEq, Prod.mk.injEq] at ef
      obtain ⟨rfl, rfl⟩ := ef
      refine ha B a x r1 _ o e1 fun v g1 h1 o1 n1 x1 => ?_
      exact u B ⟨g1, h1, a.s, r1⟩ v x z Q o1 (.inl x1) e2 fun w g2 h2 o2 n2 x2 => k w g2 h2 o2 (n1.trans n2) x2
theorem so_u {fo : D → Option (List D)} {f : FH} (u : UO K T r fo) (ha : SH K T te f) : SO K T (tThen te r) (o1 fo f) := fun B a d r' Q o ef k => by
  unfold Pv.o1 at ef
  cases e1 : f a.r with
  | none => rw [e1] at ef; cases ef
  | some q =>
    obtain ⟨x, r1⟩ := q
    rw [e1, Option.bind_some] at ef
    cases e2 : fo x with
    | none => simp [e2] at ef
    | some z =>
      simp only [e2, Option.map_some, Option.some.injEq, Prod.mk.injEq] at ef
      obtain ⟨rfl, rfl⟩ := ef
      refine ha B a x r1 _ o e1 fun v g1 h1 o1 n1 x1 => ?_
      exact u B ⟨g1, h1, a.s, r1⟩ v x z Q o1 (.inl x1) e2 fun p vs hp xv => k p vs g1 _ (o1.newH hp) (n1.trans (o1.newH_nxt hp)) (n1.dm p hp) upd_same (o1.gn hp) (o1.untied hp) xv
theorem sob_u {fo : D → Option (List D)} {f : FP} (u : UO K T r fo) (ha : SB K T te f) : SO K T (tThen te r) (o1 fo (up f)) := fun B a d r' Q o ef k => by
  unfold Pv.o1 up at ef
  cases e1 : f a.r with
  | none => simp [e1] at ef
  | some x =>
    simp only [e1, Option.map_some, Option.bind_some] at ef
    cases e2 : fo x with
    | none => simp [e2] at ef
    | some z =>
      simp only [e2, Option.map_some, Option.some.injEq, Prod.mk.injEq] at ef
      obtain ⟨rfl, rfl⟩ := ef
      refine ha B a x _ o e1 fun v g1 h1 o1 n1 x1 => ?_
      exact u B ⟨g1, h1, a.s, a.r⟩ v x z Q o1 x1 e2 fun p vs hp xv => k p vs g1 _ (o1.newH hp) (n1.trans (o1.newH_nxt hp)) (n1.dm p hp) upd_same (o1.gn hp) (o1.untied hp) xv
end
/-- a CallR's reading, of one value -/
def on1 (rr : List V → Hp → VK → Prop) : V → Hp → VK → Prop := fun x H Q => rr [x] H Q
section
variable {X : Cx} {K : PySem.W.Frag} {T : Addr → Prop} {e : Expr} {te : TE} {x : Str} {p pos : Pos} {id Ty : String} {rr : List V → Hp → VK → Prop}
theorem qp_b1 {fo : D → Option D} {f : FP} (hc : CallR X (.builtin id) rr) (u : UP K T (on1 rr) fo) (hg : Gl X x) (hm : X.mg x = none) (hv : bootBuiltins x = some (.builtin id)) (ha : QB X K T e te f) (hn : x ≠ "__name__" := by decide) (hdb : (x == ("__debug__" : Str)) = false := by decide)
    (he : starEach [e] X.env = (false, eval e X.env) :: starEach [] X.env := by rfl) (hpl : (backTo pos (starEach [] X.env)).any (·.1) = false := by rfl) : QP X K T (.Call (.Name x p) [e] [] pos) (tThen te (on1 rr)) (f1 fo f) := ⟨ha.k, pe_callB hc hg hm hv (pa_cons ha.pe pa_nil he) hn hdb he hpl, sp_u u ha.so⟩
theorem qh_b1 {fo : D → Option D} {f : FH} (hc : CallR X (.builtin id) rr) (u : UP K T (on1 rr) fo) (hg : Gl X x) (hm : X.mg x = none) (hv : bootBuiltins x = some (.builtin id)) (ha : QH X K T e te f) (hn : x ≠ "__name__" := by decide) (hdb : (x == ("__debug__" : Str)) = false := by decide)
    (he : starEach [e] X.env = (false, eval e X.env) :: starEach [] X.env := by rfl) (hpl : (backTo pos (starEach [] X.env)).any (·.1) = false := by rfl) : QH X K T (.Call (.Name x p) [e] [] pos) (tThen te (on1 rr)) (h1 fo f) := ⟨ha.k, pe_callB hc hg hm hv (pa_cons ha.pe pa_nil he) hn hdb he hpl, sh_u u ha.so⟩
theorem qp_t1 {fo : D → Option D} {f : FP} (hc : CallR X (.type Ty) rr) (u : UP K T (on1 rr) fo) (hg : Gl X x) (hm : X.mg x = none) (hv : bootBuiltins x = some (.type Ty)) (ha : QB X K T e te f) (hn : x ≠ "__name__" := by decide) (hdb : (x == ("__debug__" : Str)) = false := by decide)
    (he : starEach [e] X.env = (false, eval e X.env) :: starEach [] X.env := by rfl) (hpl : (backTo pos (starEach [] X.env)).any (·.1) = false := by rfl) : QP X K T (.Call (.Name x p) [e] [] pos) (tThen te (on1 rr)) (f1 fo f) := ⟨ha.k, pe_callTy hc hg hm hv (pa_cons ha.pe pa_nil he) hn hdb he hpl, sp_u u ha.so⟩
theorem qh_t1 {fo : D → Option D} {f : FH} (hc : CallR X (.type Ty) rr) (u : UP K T (on1 rr) fo) (hg : Gl X x) (hm : X.mg x = none) (hv : bootBuiltins x = some (.type Ty)) (ha : QH X K T e te f) (hn : x ≠ "__name__" := by decide) (hdb : (x == ("__debug__" : Str)) = false := by decide)
    (he : starEach [e] X.env = (false, eval e X.env) :: starEach [] X.env := by rfl) (hpl : (backTo pos (starEach [] X.env)).any (·.1) = false := by rfl) : QH X K T (.Call (.Name x p) [e] [] pos) (tThen te (on1 rr)) (h1 fo f) := ⟨ha.k, pe_callTy hc hg hm hv (pa_cons ha.pe pa_nil he) hn hdb he hpl, sh_u u ha.so⟩
theorem qo_b1 {fo : D → Option (List D)} {f : FP} (hc : CallR X (.builtin id) rr) (u : UO K T (on1 rr) fo) (hg : Gl X x) (hm : X.mg x = none) (hv : bootBuiltins x = some (.builtin id)) (ha : QB X K T e te f) (hn : x ≠ "__name__" := by decide) (hdb : (x == ("__debug__" : Str)) = false := by decide)
    (he : starEach [e] X.env = (false, eval e X.env) :: starEach [] X.env := by rfl) (hpl : (backTo pos (starEach [] X.env)).any (·.1) = false := by rfl) : QO X K T (.Call (.Name x p) [e] [] pos) (tThen te (on1 rr)) (o1 fo (up f)) := ⟨ha.k, pe_callB hc hg hm hv (pa_cons ha.pe pa_nil he) hn hdb he hpl, sob_u u ha.so⟩
theorem qo_b1h {fo : D → Option (List D)} {f : FH} (hc : CallR X (.builtin id) rr) (u : UO K T (on1 rr) fo) (hg : Gl X x) (hm : X.mg x = none) (hv : bootBuiltins x = some (.builtin id)) (ha : QH X K T e te f) (hn : x ≠ "__name__" := by decide) (hdb : (x == ("__debug__" : Str)) = false := by decide)
    (he : starEach [e] X.env = (false, eval e X.env) :: starEach [] X.env := by rfl) (hpl : (backTo pos (starEach [] X.env)).any (·.1) = false := by rfl) : QO X K T (.Call (.Name x p) [e] [] pos) (tThen te (on1 rr)) (o1 fo f) := ⟨ha.k, pe_callB hc hg hm hv (pa_cons ha.pe pa_nil he) hn hdb he hpl, so_u u ha.so⟩
theorem qo_t1 {fo : D → Option (List D)} {f : FP} (hc : CallR X (.type Ty) rr) (u : UO K T (on1 rr) fo) (hg : Gl X x) (hm : X.mg x = none) (hv : bootBuiltins x = some (.type Ty)) (ha : QB X K T e te f) (hn : x ≠ "__name__" := by decide) (hdb : (x == ("__debug__" : Str)) = false := by decide)
    (he : starEach [e] X.env = (false, eval e X.env) :: starEach [] X.env := by rfl) (hpl : (backTo pos (starEach [] X.env)).any (·.1) = false := by rfl) : QO X K T (.Call (.Name x p) [e] [] pos) (tThen te (on1 rr)) (o1 fo (up f)) := ⟨ha.k, pe_callTy hc hg hm hv (pa_cons ha.pe pa_nil he) hn hdb he hpl, sob_u u ha.so⟩
theorem qo_t1h {fo : D → Option (List D)} {f : FH} (hc : CallR X (.type Ty) rr) (u : UO K T (on1 rr) fo) (hg : Gl X x) (hm : X.mg x = none) (hv : bootBuiltins x = some (.type Ty)) (ha : QH X K T e te f) (hn : x ≠ "__name__" := by decide) (hdb : (x == ("__debug__" : Str)) = false := by decide)
    (he : starEach [e] X.env = (false, eval e X.env) :: starEach [] X.env := by rfl) (hpl : (backTo pos (starEach [] X.env)).any (·.1) = false := by rfl) : QO X K T (.Call (.Name x p) [e] [] pos) (tThen te (on1 rr)) (o1 fo f) := ⟨ha.k, pe_callTy hc hg hm hv (pa_cons ha.pe pa_nil he) hn hdb he hpl, so_u u ha.so⟩
end
/-! len, sum, abs, int, list, all, any, sorted, max, min, repr -/
def intsD : List D → Option (List Int)
  | [] => some []
  | .int i :: ds => (intsD ds).map fun ns => i :: ns
  | _ :: _ => none
def boolsD : List D → Option (List Bool)
  | [] => some []
  | .bool i :: ds => (boolsD ds).map fun ns => i :: ns
  | _ :: _ => none
theorem intsD_map : ∀ ns : List Int, intsD (ns.map PyData.int) = some ns
  | [] => rfl
  | n :: ns => by
    show (intsD (ns.map PyData.int)).map _ = _
    rw [intsD_map ns]
    rfl
theorem boolsD_map : ∀ ns : List Bool, boolsD (ns.map PyData.bool) = some ns
  | [] => rfl
  | n :: ns => by
    show (boolsD (ns.map PyData.bool)).map _ = _
    rw [boolsD_map ns]
    rfl
theorem dpa_ints {K : PySem.W.Frag} {g : Hp} : ∀ {vs : List V} {ds : List D} {ns : List Int}, DpAll K g vs ds → intsD ds = some ns → vs = ns.map V.int
  | _, _, _, .nil, e => by
    cases e
    rfl
  | _, _, _, .cons (d := d) x t, e => by
    cases x with
    | int i =>
      unfold intsD at e
      rename_i vs ds
      cases e2 : intsD ds with
      | none => rw [e2] at e; cases e
      | some ns' =>
        rw [e2] at e
        cases e
        rw [dpa_ints t e2]
        rfl
    | _ => cases e
theorem dpa_bools {K : PySem.W.Frag} {g : Hp} : ∀ {vs : List V} {ds : List D} {ns : List Bool}, DpAll K g vs ds → boolsD ds = some ns → vs = ns.map V.bl
  | _, _, _, .nil, e => by
    cases e
    rfl
  | _, _, _, .cons (d := d) x t, e => by
    cases x with
    | bl i =>
      unfold boolsD at e
      rename_i vs ds
      cases e2 : boolsD ds with
      | none => rw [e2] at e; cases e
      | some ns' =>
        rw [e2] at e
        cases e
        rw [dpa_bools t e2]
        rfl
    | _ => cases e
theorem dpa_ofInts {K : PySem.W.Frag} {g : Hp} : ∀ ns : List Int, DpAll K g (ns.map V.int) (ns.map PyData.int)
  | [] => .nil
  | n :: ns => .cons (.int n) (dpa_ofInts ns)
def dLen (d : D) : Option D := (seqD d).map fun ds => .int (ds.length : Nat)
def dAbs (d : D) : Option D := match d with | .int i => some (.int (if i < 0 then -i else i)) | _ => none
def dInt (d : D) : Option D := match d with | .int i => some (.int i) | _ => none
def listD (d : D) : Option (List D) := match d with | .list ds => some ds | _ => none
def dSum (d : D) : Option D := (listD d).bind fun ds => (intsD ds).map fun ns => .int ns.sum
def dAll (d : D) : Option D := (listD d).bind fun ds => (boolsD ds).map fun ns => .bool (ns.all id)
def dAny (d : D) : Option D := (listD d).bind fun ds => (boolsD ds).map fun ns => .bool (ns.any id)
def intsOf (d : D) : Option (List Int) := (seqD d).bind intsD
def dMax (d : D) : Option D := (intsOf d).bind fun ns => match ns with | [] => none | n :: ns => some (.int (ns.foldl max n))
def dMin (d : D) : Option D := (intsOf d).bind fun ns => match ns with | [] => none | n :: ns => some (.int (ns.foldl min n))
def insI (x : Int) : List Int → List Int
  | [] => [x]
  | y :: l => if x ≤ y then x :: y :: l else y :: insI x l
def sortI : List Int → List Int
  | [] => []
  | x :: l => insI x (sortI l)
theorem insI_perm (x : Int) : ∀ l, (insI x l).Perm (x :: l)
  | [] => .refl _
  | y :: l => by
    unfold insI
    split
    · exact .refl _
    · exact ((insI_perm x l).cons y).trans (.swap x y l)
theorem insI_sorted (x : Int) : ∀ l : List Int, l.Pairwise (· ≤ ·) → (insI x l).Pairwise (· ≤ ·)
  | [], _ => List.pairwise_singleton _ _
  | y :: l, h => by
    have hc := List.pairwise_cons.mp h
    unfold insI
    split
    · rename_i c
      refine List.pairwise_cons.mpr ⟨fun z hz => ?_, h⟩
      rcases List.mem_cons.mp hz with rfl | hz
      · exact c
      · exact Int.le_trans c (hc.1 z hz)
    · rename_i c
      refine List.pairwise_cons.mpr ⟨fun z hz => ?_, insI_sorted x l hc.2⟩
      rcases List.mem_cons.mp ((insI_perm x l).mem_iff.mp hz) with rfl | hz
      · omega
      · exact hc.1 z hz
theorem sortI_perm : ∀ l, (sortI l).Perm l
  | [] => .refl _
  | x :: l => (insI_perm x _).trans ((sortI_perm l).cons x)
theorem sortI_sorted : ∀ l, (sortI l).Pairwise (· ≤ ·)
  | [] => .nil
  | x :: l => insI_sorted x _ (sortI_sorted l)
def dSort (d : D) : Option (List D) := (intsOf d).bind fun ns => if ns.length < 64 then some ((sortI ns).map PyData.int) else none
def dRep (d : D) : Option D := if (isOb d && d.showable && !d.hasDict && decide (d.depth ≤ 8) && decide (d.shown.length ≤ sizeLine)) = true then some (.str d.shown) else none
where isOb : D → Bool
  | .list _ => true
  | .tuple _ => true
  | _ => false
section
variable {K : PySem.W.Frag} {T : Addr → Prop}
theorem up_len : UP K T (on1 fun xs H Q => ∃ x n, xs = [x] ∧ LenV K x H n ∧ Q (.int (n : Nat)) H) dLen := fun B a x d z Q o rx ef k => by
  unfold dLen at ef
  cases e1 : seqD d with
  | none => rw [e1] at ef; cases ef
  | some ds =>
    rw [e1] at ef
    cases ef
    obtain ⟨p, vs, rfl, hs, t⟩ := rx.seq o e1
    refine ⟨_, ds.length, rfl, ?_, k _ a.g a.h o .refl (.int _)⟩
    rcases hs with hs | hs
    · exact .inl ⟨vs, hs, (dpa_len t).symm⟩
    · exact .inr ⟨vs, hs, (dpa_len t).symm⟩
theorem up_abs : UP K T (on1 fun xs H Q => ∃ i, xs = [.int i] ∧ Q (.int (if i < 0 then -i else i)) H) dAbs := fun B a x d z Q o rx ef k => by
  unfold dAbs at ef
  split at ef
  · cases ef
    cases rx.int
    exact ⟨_, rfl, k _ a.g a.h o .refl (.int _)⟩
  · cases ef
theorem up_int : UP K T (on1 fun xs H Q => (∃ i, xs = [.int i] ∧ Q (.int i) H) ∨ ∃ k, xs = [.bl k] ∧ Q (.int (if k then 1 else 0)) H) dInt := fun B a x d z Q o rx ef k => by
  unfold dInt at ef
  split at ef
  · cases ef
    cases rx.int
    exact .inl ⟨_, rfl, k _ a.g a.h o .refl (.int _)⟩
  · cases ef
theorem listD_eq {d : D} {ds : List D} (h : listD d = some ds) : d = .list ds := by
  unfold listD at h
  split at h
  · cases h
    rfl
  · cases h
theorem up_sum : UP K T (on1 (rSum K)) dSum := fun B a x d z Q o rx ef k => by
  unfold dSum at ef
  cases e1 : listD d with
  | none => rw [e1] at ef; cases ef
  | some ds =>
    rw [e1, Option.bind_some] at ef
    cases e2 : intsD ds with
    | none => rw [e2] at ef; cases ef
    | some ns =>
      rw [e2] at ef
      cases ef
      cases listD_eq e1
      obtain ⟨p, vs, rfl, hs, t⟩ := rx.list o
      exact ⟨p, ns, rfl, by rw [← dpa_ints t e2]; exact hs, k _ a.g a.h o .refl (.int _)⟩
theorem up_all : UP K T (on1 (rAll K)) dAll := fun B a x d z Q o rx ef k => by
  unfold dAll at ef
  cases e1 : listD d with
  | none => rw [e1] at ef; cases ef
  | some ds =>
    rw [e1, Option.bind_some] at ef
    cases e2 : boolsD ds with
    | none => rw [e2] at ef; cases ef
    | some ns =>
      rw [e2] at ef
      cases ef
      cases listD_eq e1
      obtain ⟨p, vs, rfl, hs, t⟩ := rx.list o
      exact ⟨p, ns, rfl, by rw [← dpa_bools t e2]; exact hs, k _ a.g a.h o .refl (.bl _)⟩
theorem intsOf_at {B : Addr → Prop} {a : Sx} {x : V} {d : D} {ns : List Int} (o : Ok K T B a) (rx : RepB K a x d) (h : intsOf d = some ns) : ∃ p, x = .ref p ∧ SeqLT K a.h p (ns.map V.int) := by
  unfold intsOf at h
  cases e1 : seqD d with
  | none => rw [e1] at h; cases h
  | some ds =>
    rw [e1, Option.bind_some] at h
    obtain ⟨p, vs, rfl, hs, t⟩ := rx.seq o e1
    exact ⟨p, rfl, by rw [← dpa_ints t h]; exact hs⟩
theorem sortI_eq {ns ns' : List Int} (p : ns'.Perm ns) (s : ns'.Pairwise (· ≤ ·)) : ns' = sortI ns :=
  List.Perm.eq_of_pairwise (le := fun x y => x ≤ y) (fun x y _ _ h1 h2 => Int.le_antisymm h1 h2) s (sortI_sorted ns) (p.trans (sortI_perm ns).symm)
theorem uo_sort : UO K T (on1 (rSortLT K)) dSort := fun B a x d zs Q o rx ef k => by
  unfold dSort at ef
  cases e1 : intsOf d with
  | none => rw [e1] at ef; cases ef
  | some ns =>
    rw [e1, Option.bind_some] at ef
    split at ef
    · rename_i hl
      cases ef
      obtain ⟨p, rfl, hs⟩ := intsOf_at o rx e1
      refine ⟨p, ns, rfl, hs, hl, fun ns' q pm pw hq => ?_⟩
      rw [sortI_eq pm pw]
      exact k q _ hq (dpa_ofInts _)
    · cases ef
theorem uo_list : UO K T (on1 fun xs H Q => ∃ p ys, xs = [.ref p] ∧ (SqL K H p ys ∨ SqT K H p ys) ∧ ∀ l, H l = none → Q (.ref l) (upd H l (.lst ys))) seqD := fun B a x d zs Q o rx ef k => by
  obtain ⟨p, vs, rfl, hs, t⟩ := rx.seq o ef
  exact ⟨p, vs, rfl, hs, fun l hl => k l vs hl t⟩
theorem up_rep : UP K T (on1 (rReprD K 8)) dRep := fun B a x d z Q o rx ef k => by
  unfold dRep at ef
  split at ef
  · rename_i h
    simp only [Bool.and_eq_true, Bool.not_eq_true', decide_eq_true_eq] at h
    obtain ⟨⟨⟨⟨h0, h1⟩, h2⟩, h3⟩, h4⟩ := h
    cases ef
    have dp := rx.dp o
    have ref : ∃ p, x = .ref p := by
      cases dp with
      | lst _ _ => exact ⟨_, rfl⟩
      | tup _ _ => exact ⟨_, rfl⟩
      | _ => cases h0
    obtain ⟨p, rfl⟩ := ref
    exact ⟨p, d, rfl, dp, h1, h2, h3, h4, k _ a.g a.h o .refl (.str _)⟩
  · cases ef
end
/-! max, min of a list or a tuple -/
theorem reads_intsP {h : Heap} : ∀ (ns : List Int) (its : List Value), Vals (ns.map V.int) its → ∃ as, ReadsAll h its (ns.map PyData.int) as
  | [], its, r => by
    cases r
    exact ⟨_, .nil⟩
  | n :: ns, its, r => by
    cases r with
    | cons r1 r2 =>
      obtain ⟨t, rfl⟩ := r1
      obtain ⟨as, q⟩ := reads_intsP ns _ r2
      exact ⟨_, .cons (.int n t) q⟩
theorem depth_intsP : ∀ ns : List Int, PyData.depthAll (ns.map PyData.int) = 0
  | [] => by
    show PyData.depthAll [] = 0
    rw [PyData.depthAll]
  | n :: ns => by
    show PyData.depthAll (PyData.int n :: ns.map PyData.int) = 0
    rw [PyData.depthAll, depth_intsP ns, PyData.depth]
    rfl
theorem alike_intsP (ns : List Int) : PySem.W.AlikeAll (ns.map PyData.int) := by
  refine ⟨fun x hx y hy => ?_, fun x hx => ?_⟩
  · obtain ⟨i, _, rfl⟩ := List.mem_map.mp hx
    obtain ⟨j, _, rfl⟩ := List.mem_map.mp hy
    rfl
  · obtain ⟨i, _, rfl⟩ := List.mem_map.mp hx
    exact fun z => nomatch z
def rMaxS (K : PySem.W.Frag) : List V → Hp → VK → Prop := fun xs H Q => ∃ (a : Addr) (n : Int) (ns : List Int), xs = [.ref a] ∧ SeqLT K H a ((n :: ns).map V.int) ∧ Q (.int (ns.foldl max n)) H
def rMinS (K : PySem.W.Frag) : List V → Hp → VK → Prop := fun xs H Q => ∃ (a : Addr) (n : Int) (ns : List Int), xs = [.ref a] ∧ SeqLT K H a ((n :: ns).map V.int) ∧ Q (.int (ns.foldl min n)) H
section
variable {X : Cx} {K : PySem.W.Frag} {T : Addr → Prop}
theorem cr_maxS (hc : X.calm = true) (hu : X.A.units + 1 < cLine) : CallR X (.builtin "max") (rMaxS X.K) := by
  intro pins s σ H xs us Q I r h
  obtain ⟨a, n, ns, rfl, hq, q⟩ := h
  rw [Vals.ref1 r]
  have room : X.A.units + 1 + PyData.depthAll (PyData.int n :: ns.map PyData.int) < cLine := by
    have e := depth_intsP (n :: ns)
    rw [List.map_cons] at e
    rw [e]
    exact hu
  have fin : ∀ (v : Value) (h' : Heap) (tk : Nat) (bs : List Addr), Reads h' v (PySem.W.maxD (.int n) (ns.map PyData.int)) bs → (∀ b o, s.heap.get? b = some o → h'.get? b = some o) → EP X pins σ Q v { s with heap := h', toks := tk } := fun v h' tk bs rd hk => by
    rw [PySem.W.maxD_ints] at rd
    cases rd
    exact ⟨.int _, H, I.kept hk, ⟨_, rfl⟩, q⟩
  rcases hq with hq | hq
  · obtain ⟨its, rv, pl, hz⟩ := I.list hq
    obtain ⟨as, rd⟩ := reads_intsP (h := s.heap) (n :: ns) its rv
    exact PySem.W.max_list_data (I.ok.hd hc) pl.isList (by simpa using rd) (alike_intsP (n :: ns)) room fun i v h' tk bs _ r hk => fin v h' tk bs r hk
  · obtain ⟨its, rv, pl, hz⟩ := I.tuple hq
    obtain ⟨as, rd⟩ := reads_intsP (h := s.heap) (n :: ns) its rv
    exact PySem.W.max_tuple_data (I.ok.hd hc) (show s.heap.IsTuple a its.toArray from pl) (by simpa using rd) (alike_intsP (n :: ns)) room fun i v h' tk bs _ r hk => fin v h' tk bs r hk
theorem up_max : UP K T (on1 (rMaxS K)) dMax := fun B a x d z Q o rx ef k => by
  unfold dMax at ef
  cases e1 : intsOf d with
  | none => rw [e1] at ef; cases ef
  | some ns =>
    rw [e1, Option.bind_some] at ef
    cases ns with
    | nil => cases ef
    | cons n ns =>
      cases ef
      obtain ⟨p, rfl, hs⟩ := intsOf_at o rx e1
      exact ⟨p, n, ns, rfl, hs, k _ a.g a.h o .refl (.int _)⟩
end
end Pv

set_option Elab.async false
set_option linter.all false
set_option maxRecDepth 100000
set_option maxHeartbeats 2000000
namespace Pv
open PySem PySem.Spec PyProof.Rows L2 Lb

section
variable {X : Cx} {K : PySem.W.Frag} {T : Addr → Prop}
theorem cr_minS (hc : X.calm = true) (hu : X.A.units + 1 < cLine) : CallR X (.builtin "min") (rMinS X.K) := by
  intro pins s σ H xs us Q I r h
  obtain ⟨a, n, ns, rfl, hq, q⟩ := h
  rw [Vals.ref1 r]
  have room : X.A.units + 1 + PyData.depthAll (PyData.int n :: ns.map PyData.int) < cLine := by
    have e := depth_intsP (n :: ns)
    rw [List.map_cons] at e
    rw [e]
    exact hu
  have fin : ∀ (v : Value) (h' : Heap) (tk : Nat) (bs : List Addr), Reads h' v (PySem.W.minD (.int n) (ns.map PyData.int)) bs → (∀ b o, s.heap.get? b = some o → h'.get? b = some o) → EP X pins σ Q v { s with heap := h', toks := tk } := fun v h' tk bs rd hk => by
    rw [PySem.W.minD_ints] at rd
    cases rd
    exact ⟨.int _, H, I.kept hk, ⟨_, rfl⟩, q⟩
  rcases hq with hq | hq
  · obtain ⟨its, rv, pl, hz⟩ := I.list hq
    obtain ⟨as, rd⟩ := reads_intsP (h := s.heap) (n :: ns) its rv
    exact PySem.W.min_list_data (I.ok.hd hc) pl.isList (by simpa using rd) (alike_intsP (n :: ns)) room fun i v h' tk bs _ r hk => fin v h' tk bs r hk
  · obtain ⟨its, rv, pl, hz⟩ := I.tuple hq
    obtain ⟨as, rd⟩ := reads_intsP (h := s.heap) (n :: ns) its rv
    exact PySem.W.min_tuple_data (I.ok.hd hc) (show s.heap.IsTuple a its.toArray from pl) (by simpa using rd) (alike_intsP (n :: ns)) room fun i v h' tk bs _ r hk => fin v h' tk bs r hk
theorem up_min : UP K T (on1 (rMinS K)) dMin := fun B a x d z Q o rx ef k => by
  unfold dMin at ef
  cases e1 : intsOf d with
  | none => rw [e1] at ef; cases ef
  | some ns =>
    rw [e1, Option.bind_some] at ef
    cases ns with
    | nil => cases ef
    | cons n ns =>
      cases ef
      obtain ⟨p, rfl, hs⟩ := intsOf_at o rx e1
      exact ⟨p, n, ns, rfl, hs, k _ a.g a.h o .refl (.int _)⟩
/-! two numbers -/
def on2 (rr : List V → Hp → VK → Prop) : R2 := fun x y H Q => rr [x, y] H Q
def dMax2 := dII fun i j => .int (if j > i then j else i)
def dMin2 := dII fun i j => .int (if j < i then j else i)
def cDivW (i j : Int) : Bool := decide (0 < j) && decide (j < 1073741824)
def dDivmod := dIC cDivW fun i j => .tuple [.int (i / j), .int (i % j)]
theorem os2_ii {g : Int → Int → D} {gv : Int → Int → V} (x : ∀ i j G, Dp K G (gv i j) (g i j)) : OpS K T (on2 fun xs H Q => ∃ i j, xs = [.int i, .int j] ∧ Q (gv i j) H) (dII g) := fun B a v u d e z Q o rv ru ef k => by
  unfold dII at ef
  split at ef
  · cases ef
    cases rv.int
    cases ru.int
    exact ⟨_, _, rfl, k _ a.g a.h o .refl (x _ _ _)⟩
  · cases ef
def rDivF : List V → Hp → VK → Prop := fun xs H Q => ∃ i j, xs = [.int i, .int j] ∧ CDiv i j ∧ ∀ (p : Addr) (o : Obj), o.dict = none → H p = none → Q (.ref p) (upd H p (.frz o (.tup [.int (i / j), .int (i % j)])))
theorem call_divF : CallR X (.builtin "divmod") rDivF := by
  intro pins s σ H xs us Q I r h
  obtain ⟨i, j, rfl, ⟨h1, h2⟩, q⟩ := h
  obtain ⟨u, w', rfl, ⟨t, rfl⟩, ⟨t', rfl⟩⟩ := vals2 r
  refine divmod_int (by omega) ?_ (.inl (PyProof.noPylong_small (by omega)))
  rw [Int.fdiv_eq_ediv_of_nonneg i (by omega), Int.fmod_eq_emod_of_nonneg i (by omega)]
  exact ⟨.ref s.heap.objs.size, _, inv_frz (xs := [V.int (i / j), V.int (i % j)]) (its := [Value.int (i / j) s.toks, Value.int (i % j) (s.toks + 1)]) I (fun b o e => e) (by show 2 ≤ sizeLine; rw [sizeLine_eq]; decide) (.cons ⟨_, rfl⟩ (.cons ⟨_, rfl⟩ .nil)) _, rfl, q _ _ rfl (I.hok.fresh (Nat.le_refl _))⟩
theorem os_divF : OpS K T (on2 rDivF) dDivmod := fun B a v u d e z Q o rv ru ef k => by
  unfold dDivmod dIC at ef
  split at ef
  · split at ef
    · rename_i hC
      unfold cDivW at hC
      simp only [Bool.and_eq_true, decide_eq_true_eq] at hC
      cases ef
      cases rv.int
      cases ru.int
      exact ⟨_, _, rfl, hC, fun p ob hd hp => k _ _ _ (o.newG hp hd) (o.newG_nxt hp) (.tup (.inl (.inr ⟨ob, upd_same⟩)) (.cons (.int _) (.cons (.int _) .nil)))⟩
    · cases ef
  · cases ef
end
section
variable {X : Cx} {K : PySem.W.Frag} {T : Addr → Prop} {ea eb ec : Expr} {ta tb tc : TE} {x : Str} {p pos : Pos} {id : String} {rr : List V → Hp → VK → Prop}
theorem qp_b2 {fo : D → D → Option D} {f g : FP} (hc : CallR X (.builtin id) rr) (u : OpS K T (on2 rr) fo) (hg : Gl X x) (hm : X.mg x = none) (hv : bootBuiltins x = some (.builtin id)) (ha : QB X K T ea ta f) (hb : QB X K T eb tb g) (hn : x ≠ "__name__" := by decide) (hdb : (x == ("__debug__" : Str)) = false := by decide)
    (he : starEach [ea, eb] X.env = (false, eval ea X.env) :: starEach [eb] X.env := by rfl) (he2 : starEach [eb] X.env = (false, eval eb X.env) :: starEach [] X.env := by rfl) (hpl : (backTo pos (starEach [eb] X.env)).any (·.1) = false := by rfl) : QP X K T (.Call (.Name x p) [ea, eb] [] pos) (tOp (on2 rr) ta tb) (f2 fo f g) := ⟨ha.k, pe_callB hc hg hm hv (pa_cons ha.pe (pa_cons hb.pe pa_nil he2) he) hn hdb he hpl, sp_op u ha.so hb.so⟩
theorem qh_b2 {fo : D → D → Option D} {f g : FH} (hc : CallR X (.builtin id) rr) (u : OpS K T (on2 rr) fo) (hg : Gl X x) (hm : X.mg x = none) (hv : bootBuiltins x = some (.builtin id)) (ha : QH X K T ea ta f) (hb : QH X K T eb tb g) (hn : x ≠ "__name__" := by decide) (hdb : (x == ("__debug__" : Str)) = false := by decide)
    (he : starEach [ea, eb] X.env = (false, eval ea X.env) :: starEach [eb] X.env := by rfl) (he2 : starEach [eb] X.env = (false, eval eb X.env) :: starEach [] X.env := by rfl) (hpl : (backTo pos (starEach [eb] X.env)).any (·.1) = false := by rfl) : QH X K T (.Call (.Name x p) [ea, eb] [] pos) (tOp (on2 rr) ta tb) (h2 fo f g) := ⟨ha.k, pe_callB hc hg hm hv (pa_cons ha.pe (pa_cons hb.pe pa_nil he2) he) hn hdb he hpl, sh_op u ha.so hb.so⟩
end
/-! isinstance of a built-in class -/
def tyD : D → String
  | .none => "NoneType"
  | .bool _ => "bool"
  | .int _ => "int"
  | .str _ => "str"
  | .list _ => "list"
  | .tuple _ => "tuple"
  | .dict _ => "dict"
def dIsi (c : String) (d : D) : Option D := (kitB (tyD d) c).map fun b => .bool b
section
variable {X : Cx} {K : PySem.W.Frag} {T : Addr → Prop} {e : Expr} {te : TE} {p p2 pos : Pos} {x y : Str}
theorem TyX.dp {g h : Hp} (s : Sub g h) (kn : ∀ p u, g p = some u → Kn u) {v : V} {d : D} (x : Dp K g v d) : TyX K h v (.type (tyD d)) := by
  cases x with
  | non => exact .base .non
  | bl b => exact .base (.bl b)
  | int i => exact .base (.int i)
  | str z => exact .base (.str z)
  | lst hs _ =>
    rcases hs with (hs | ⟨o, hs⟩) | ⟨o, _, _, hk, hc, _⟩
    · exact .base (.lst (s _ _ hs))
    · exact .base (.frz (s _ _ hs))
    · exact .kList hk hc
  | tup hs _ =>
    rcases hs with (hs | ⟨o, hs⟩) | ⟨o, _, _, hk, hc, _⟩
    · exact (kn _ _ hs).elim
    · exact .fTuple (s _ _ hs)
    · exact .kTuple hk hc
theorem RepB.ty {B : Addr → Prop} {a : Sx} {v : V} {d : D} (o : Ok K T B a) (h : RepB K a v d) : TyX K a.h v (.type (tyD d)) := by
  rcases h with h | ⟨i, b', ds, e, s, rfl⟩
  · exact TyX.dp o.le o.kn h
  · obtain ⟨p, vs, s', h, _⟩ := o.ow i b' ds e
    rw [s] at s'
    cases s'
    exact .base (.lst h)
theorem sp_isi (c : String) {f : FP} (ha : SB K T te f) : SP K T (tCB (rIsi K) (tCons te (tCons (tC (.ty c)) tNil))) (f1 (dIsi c) f) := fun B a d Q o ef k => by
  unfold f1 at ef
  cases e1 : f a.r with
  | none => rw [e1] at ef; cases ef
  | some x =>
    rw [e1, Option.bind_some] at ef
    unfold dIsi at ef
    cases e2 : kitB (tyD x) c with
    | none => rw [e2] at ef; cases ef
    | some b =>
      rw [e2] at ef
      cases ef
      refine ha B a x _ o e1 fun v g1 h1 o1 n1 r1 => ?_
      exact ⟨v, .ty c, _, .type c, b, rfl, .ty c, r1.ty o1, kit_ty e2, k _ g1 h1 o1 n1 (.bl _)⟩
theorem qp_isi (c : String) {f : FP} (hg : Gl X "isinstance") (hm : X.mg "isinstance" = none) (ha : QB X K T e te f) (hg2 : Gl X y) (hm2 : X.mg y = none) (hv2 : bootBuiltins y = some (.type c))
    (hn2 : y ≠ "__name__" := by decide) (hd2 : (y == ("__debug__" : Str)) = false := by decide)
    (he : starEach [e, .Name y p2] X.env = (false, eval e X.env) :: starEach [.Name y p2] X.env := by rfl) (he2 : starEach [.Name y p2] X.env = (false, eval (.Name y p2) X.env) :: starEach [] X.env := by rfl) (hpl : (backTo pos (starEach [.Name y p2] X.env)).any (·.1) = false := by rfl) :
    QP X K T (.Call (.Name "isinstance" p) [e, .Name y p2] [] pos) (tCB (rIsi K) (tCons te (tCons (tC (.ty c)) tNil))) (f1 (dIsi c) f) := ⟨ha.k, pe_callB (ha.k ▸ call_isi) hg hm (by decide +kernel) (pa_cons ha.pe (pa_cons (pe_bltn (v := .ty c) (u := .type c) (pos := p2) hg2 hm2 hv2 rfl hn2 hd2) pa_nil he2) he) (by decide) (by decide) he hpl, sp_isi c ha.so⟩
end

/-! ### ranges as values; tuple(x) -/
def fRgL (f : FO) : FO := fun r => (fRng2 f r).bind fun p => if p.1.length ≤ BIG then some p else none
def dRg2 (d e : D) : Option (List D) := match d, e with
  | .int i, .int j => if (isSm i && isSm j && decide ((j - i).toNat ≤ BIG)) = true then some (rngD i (j - i).toNat) else none
  | _, _ => none
def fRgO (f g : FP) : FO := fun r => (f r).bind fun x => (g r).bind fun y => (dRg2 x y).map fun z => (z, r)
def fRgT (f g : FP) : FP := fun r => (f r).bind fun x => (g r).bind fun y => (dRg2 x y).map fun z => .tuple z
section
variable {X : Cx} {K : PySem.W.Frag} {T : Addr → Prop} {ea eb ec e : Expr} {ta tb te : TE} {p p' pos pos' : Pos} {f g : FP}
theorem rgV_dpa {G : Hp} (i j : Int) : DpAll K G (rgV i j) (rngD i (j - i).toNat) := by
  unfold rgV rngD
  generalize (List.range (j - i).toNat) = l
  induction l with
  | nil => exact .nil
  | cons x l ih => exact .cons (.int _) ih
theorem rg2_ok {i j : Int} (h : (isSm i && isSm j && decide ((j - i).toNat ≤ BIG)) = true) : RgOk i j := by
  simp only [Bool.and_eq_true, decide_eq_true_eq] at h
  have h := And.intro (And.intro (isSm_b h.1.1) (isSm_b h.1.2)) h.2
  unfold BIG at h
  exact ⟨h.1.1.1, h.1.1.2, h.1.2.1, h.1.2.2, by omega⟩
theorem rg2_at {B : Addr → Prop} {a : Sx} {zs : List D} {Q : VK} {kk : Int → Int → Hp → Prop} (ha : SB K T ta f) (hb : SB K T tb g) (o : Ok K T B a) (ef : (f a.r).bind (fun x => (g a.r).bind fun y => dRg2 x y) = some zs)
    (k : ∀ i j g' h', RgOk i j → zs = rngD i (j - i).toNat → Ok K T B ⟨g', h', a.s, a.r⟩ → Nxt T a ⟨g', h', a.s, a.r⟩ → kk i j h') : tRg2 ta tb a.s a.h kk := by
  cases e1 : f a.r with
  | none => rw [e1] at ef; cases ef
  | some x =>
    rw [e1, Option.bind_some] at ef
    cases e2 : g a.r with
    | none => rw [e2] at ef; cases ef
    | some y =>
      rw [e2, Option.bind_some] at ef
      unfold dRg2 at ef
      split at ef
      · rename_i i j
        split at ef
        · rename_i hh
          cases ef
          refine ha B a _ _ o e1 fun v g1 h1 o1 n1 r1 => ?_
          refine hb B ⟨g1, h1, a.s, a.r⟩ _ _ o1 e2 fun w g2 h2 o2 n2 r2 => ?_
          cases r1.int
          cases r2.int
          exact ⟨i, j, rfl, rfl, k i j g2 h2 (rg2_ok hh) rfl o2 (n1.trans n2)⟩
        · cases ef
      · cases ef
theorem qo_listRg (hc : X.calm = true) (hg : Gl X "list") (hm : X.mg "list" = none) (hg' : Gl X "range") (hm' : X.mg "range" = none) (ha : QB X K T ea ta f) (hb : QB X K T eb tb g)
    (na : starEach [ea, eb] X.env = (false, eval ea X.env) :: starEach [eb] X.env := by rfl) (nb : starEach [eb] X.env = (false, eval eb X.env) :: starEach [] X.env := by rfl) (hp : (backTo pos' (starEach [eb] X.env)).any (·.1) = false := by rfl)
    (nc : starEach [.Call (.Name "range" p') [ea, eb] [] pos'] X.env = (false, eval (.Call (.Name "range" p') [ea, eb] [] pos') X.env) :: starEach [] X.env := by rfl) :
    QO X K T (.Call (.Name "list" p) [.Call (.Name "range" p') [ea, eb] [] pos'] [] pos) (tLstRg (tRg2 ta tb)) (fRgO f g) := ⟨ha.k, pe_listRg hc hg hm (prg_2 hg' hm' ha.pe hb.pe na nb hp) nc, fun B a zs r' Q o ef k => by
  unfold fRgO at ef
  have e2 : ((f a.r).bind fun x => (g a.r).bind fun y => dRg2 x y) = some zs ∧ a.r = r' := by
    cases e1 : f a.r with
    | none => rw [e1] at ef; cases ef
    | some x =>
      rw [e1, Option.bind_some] at ef
      cases e2 : g a.r with
      | none => rw [e2] at ef; cases ef
      | some y =>
        rw [e2, Option.bind_some] at ef
        cases e3 : dRg2 x y with
        | none => simp [e3] at ef
        | some z =>
          simp only [e3, Option.map_some, Option.some.injEq, Prod.mk.injEq] at ef
          exact ⟨by rw [Option.bind_some, Option.bind_some, e3, ef.1], ef.2⟩
  obtain ⟨e2, rfl⟩ := e2
  refine rg2_at (Q := Q) ha.so hb.so o e2 fun i j g1 h1 ok ez o1 n1 => ⟨ok, fun q hq => ?_⟩
  subst ez
  exact k q _ g1 _ (o1.newH hq) (n1.trans (o1.newH_nxt hq)) (n1.dm q hq) upd_same (o1.gn hq) (o1.untied hq) (rgV_dpa i j)⟩
theorem qp_tupRg (hc : X.calm = true) (hg : Gl X "tuple") (hm : X.mg "tuple" = none) (hg' : Gl X "range") (hm' : X.mg "range" = none) (ha : QB X K T ea ta f) (hb : QB X K T eb tb g)
    (na : starEach [ea, eb] X.env = (false, eval ea X.env) :: starEach [eb] X.env := by rfl) (nb : starEach [eb] X.env = (false, eval eb X.env) :: starEach [] X.env := by rfl) (hp : (backTo pos' (starEach [eb] X.env)).any (·.1) = false := by rfl)
    (nc : starEach [.Call (.Name "range" p') [ea, eb] [] pos'] X.env = (false, eval (.Call (.Name "range" p') [ea, eb] [] pos') X.env) :: starEach [] X.env := by rfl) :
    QP X K T (.Call (.Name "tuple" p) [.Call (.Name "range" p') [ea, eb] [] pos'] [] pos) (tTupRF (tRg2 ta tb)) (fRgT f g) := ⟨ha.k, pe_tupRF hc hg hm (prg_2 hg' hm' ha.pe hb.pe na nb hp) nc, fun B a d Q o ef k => by
  unfold fRgT at ef
  have e2 : ∃ zs, ((f a.r).bind fun x => (g a.r).bind fun y => dRg2 x y) = some zs ∧ d = .tuple zs := by
    cases e1 : f a.r with
    | none => rw [e1] at ef; cases ef
    | some x =>
      rw [e1, Option.bind_some] at ef
      cases e2 : g a.r with
      | none => rw [e2] at ef; cases ef
      | some y =>
        rw [e2, Option.bind_some] at ef
        cases e3 : dRg2 x y with
        | none => simp [e3] at ef
        | some z =>
          simp only [e3, Option.map_some, Option.some.injEq] at ef
          exact ⟨z, by rw [Option.bind_some, Option.bind_some, e3], ef.symm⟩
  obtain ⟨zs, e2, rfl⟩ := e2
  refine rg2_at (Q := Q) ha.so hb.so o e2 fun i j g1 h1 ok ez o1 n1 => ⟨ok, fun q ob hd hq => ?_⟩
  subst ez
  exact k _ _ _ (o1.newG hq hd) (n1.trans (o1.newG_nxt hq)) (.tup (.inl (.inr ⟨ob, upd_same⟩)) (rgV_dpa i j))⟩
/-- tuple(x), x a list or a tuple -/
def kTupG (K : PySem.W.Frag) : V → Hp → VK → Prop := fun x H Q => ∃ (p : Addr) (xs : List V), x = .ref p ∧ ((SqT K H p xs ∧ Q (.ref p) H) ∨ (SqL K H p xs ∧ ∀ (q : Addr) (o : Obj), o.dict = none → H q = none → Q (.ref q) (upd H q (.frz o (.tup xs)))))
theorem pe_tupG (hg : Gl X "tuple") (hm : X.mg "tuple" = none) (ha : PE X ea ta) (na : starEach [ea] X.env = (false, eval ea X.env) :: starEach [] X.env := by rfl) :
    PE X (.Call (.Name "tuple" p) [ea] [] pos) (tThen ta (kTupG X.K)) := by
  refine ⟨fun pins s σ H Q I h => ?_⟩
  refine Call_ (ld_blt I hg hm boot_tuple (PyProof.Rows.callWith_type1 (one_arg ha I h (fun v s2 x H2 I2 r q => ?_) na) na))
  obtain ⟨t, xs, rfl, q⟩ := q
  obtain rfl : v = .ref t := r
  rcases q with ⟨hs, q⟩ | ⟨hs, q⟩
  · obtain ⟨its, rv, pl, hz⟩ := I2.tuple hs
    exact call_tuple_tup pl ⟨.ref t, H2, I2, rfl, q⟩
  · obtain ⟨its, rv, pl, hz⟩ := I2.list hs
    refine call_tuple_list pl.isList (fun h' hk => ?_) (by rw [List.size_toArray, ← rv.length]; exact hz)
    have I1 : L2.Inv X pins σ H2 { s2 with heap := h' } := I2.kept (t' := s2.toks) hk
    exact ⟨.ref h'.objs.size, _, inv_frz I2 hk hz rv s2.toks, rfl, q _ _ rfl (I1.hok.fresh (Nat.le_refl _))⟩
def dTup (d : D) : Option D := (seqD d).map .tuple
theorem up_tup : UP K T (kTupG K) dTup := fun B a x d z Q o rx ef k => by
  unfold dTup at ef
  cases d with
  | list ds =>
    cases ef
    obtain ⟨p, vs, rfl, hs, t⟩ := rx.list o
    exact ⟨p, vs, rfl, .inr ⟨hs, fun q ob hd hq => k _ _ _ (o.newG hq hd) (o.newG_nxt hq) (.tup (.inl (.inr ⟨ob, upd_same⟩)) (dpa_sub (Sub.new (o.gn hq)) t))⟩⟩
  | tuple ds =>
    cases ef
    obtain ⟨p, vs, rfl, hg, hs, t⟩ := rx.tuple o
    exact ⟨p, vs, rfl, .inl ⟨hs, k _ a.g a.h o .refl (.tup hg t)⟩⟩
  | _ => cases ef
theorem qp_tup {f : FP} (hg : Gl X "tuple") (hm : X.mg "tuple" = none) (ha : QB X K T ea ta f) (na : starEach [ea] X.env = (false, eval ea X.env) :: starEach [] X.env := by rfl) : QP X K T (.Call (.Name "tuple" p) [ea] [] pos) (tThen ta (kTupG K)) (f1 dTup f) := ⟨ha.k, ha.k ▸ pe_tupG hg hm ha.pe na, sp_u up_tup ha.so⟩
theorem qh_tupc {f : FH} (hg : Gl X "tuple") (hm : X.mg "tuple" = none) (ha : QH X K T ea ta f) (na : starEach [ea] X.env = (false, eval ea X.env) :: starEach [] X.env := by rfl) : QH X K T (.Call (.Name "tuple" p) [ea] [] pos) (tThen ta (kTupG K)) (h1 dTup f) := ⟨ha.k, ha.k ▸ pe_tupG hg hm ha.pe na, sh_u up_tup ha.so⟩

/-! ### slices -/
def rCutG (K : PySem.W.Frag) : V → Option Int → Option Int → Hp → VK → Prop := fun x lo hi H Q => ∃ (a : Addr) (xs : List V), x = .ref a ∧
  ((SqL K H a xs ∧ ∀ p, H p = none → Q (.ref p) (upd H p (.lst (cutV xs lo hi)))) ∨ (SqT K H a xs ∧ (cutV xs lo hi = xs → Q (.ref a) H) ∧ ∀ (p : Addr) (o : Obj), o.dict = none → H p = none → Q (.ref p) (upd H p (.frz o (.tup (cutV xs lo hi))))))
theorem sl_cutG : SlR X (rCutG X.K) := by
  intro pins s σ H x v vl vu lo hi sl Q I rx hs pl pu h
  obtain ⟨a, xs, rfl, ⟨hq, q⟩ | ⟨hq, q0, q⟩⟩ := h
  · exact sl_list pins s σ H _ v vl vu lo hi sl Q I rx hs pl pu ⟨a, xs, rfl, hq, fun p hp => q p hp⟩
  · by_cases hw : HT.sIx xs.length 0 lo = 0 ∧ HT.sIx xs.length xs.length hi = xs.length
    · refine sl_tupA pins s σ H _ v vl vu lo hi sl Q I rx hs pl pu ⟨a, xs, rfl, hq, fun _ => q0 ?_, fun z => absurd hw z⟩
      unfold cutV
      rw [hw.1, hw.2, List.drop_zero, Nat.sub_zero, List.take_length]
    · cases rx
      obtain ⟨its, r, ht, hz⟩ := I.tuple hq
      have hlen : its.toArray.size = xs.length := by rw [List.size_toArray]; exact r.length.symm
      refine ⟨"tuple", _, PyProof.Rows.slot_tuple_getitem.lookup, ht.typeIs, ?_⟩
      refine HT.getItem_tuple_cut ht hs pl pu (by rw [hlen]; exact hw) ?_ (by rw [hlen]; exact hz)
      rw [hlen]
      exact ⟨.ref s.heap.objs.size, _, inv_frz I (fun b o e => e) (Nat.le_trans (cutV_length xs lo hi) hz) ((r.drop (HT.sIx xs.length 0 lo)).take (HT.sIx xs.length xs.length hi - HT.sIx xs.length 0 lo)) s.toks, rfl, q _ _ rfl (I.hok.fresh (Nat.le_refl _))⟩
def cutD (ds : List D) (lo hi : Option Int) : List D := (ds.drop (HT.sIx ds.length 0 lo)).take (HT.sIx ds.length ds.length hi - HT.sIx ds.length 0 lo)
def dCut (d : D) (lo hi : Option Int) : Option D := match d with
  | .list ds => some (.list (cutD ds lo hi))
  | .tuple ds => some (.tuple (cutD ds lo hi))
  | _ => none
theorem cut_dpa {G : Hp} {vs : List V} {ds : List D} (t : DpAll K G vs ds) (lo hi : Option Int) : DpAll K G (cutV vs lo hi) (cutD ds lo hi) := by
  unfold cutV cutD
  rw [dpa_len t]
  exact dpa_take _ (dpa_drop _ t)
abbrev FPt := Ev → Option (Option Int)
def SPt (K : PySem.W.Frag) (T : Addr → Prop) (t : TO) (f : FPt) : Prop := ∀ (B : Addr → Prop) (a : Sx) (z : Option Int) (Q : Option Int → Hp → Prop), Ok K T B a → f a.r = some z → (∀ g' h', Ok K T B ⟨g', h', a.s, a.r⟩ → Nxt T a ⟨g', h', a.s, a.r⟩ → Q z h') → t a.s a.h Q
structure QPt (X : Cx) (K : PySem.W.Frag) (T : Addr → Prop) (e : Option Expr) (t : TO) (f : FPt) : Prop where
  k : X.K = K
  po : PO X e t
  so : SPt K T t f
def ptNone : FPt := fun _ => some none
def ptSome (f : FP) : FPt := fun r => (f r).bind fun d => match d with | .int i => some (some i) | _ => none
theorem qpt_none (hk : X.K = K := by rfl) : QPt X K T none tNoPart ptNone := ⟨hk, po_none, fun B a z Q o ef k => by
  cases ef
  exact k a.g a.h o .refl⟩
theorem qpt_some {f : FP} (ha : QB X K T ea ta f) : QPt X K T (some ea) (tPart ta) (ptSome f) := ⟨ha.k, po_some ha.pe, fun B a z Q o ef k => by
  unfold ptSome at ef
  cases e1 : f a.r with
  | none => rw [e1] at ef; cases ef
  | some x =>
    rw [e1, Option.bind_some] at ef
    cases x with
    | int i =>
      cases ef
      refine ha.so B a _ _ o e1 fun v g1 h1 o1 n1 r1 => ?_
      cases r1.int
      exact ⟨i, rfl, k g1 h1 o1 n1⟩
    | _ => cases ef⟩
def fCut (f : FP) (l u : FPt) : FP := fun r => (f r).bind fun x => (l r).bind fun lo => (u r).bind fun hi => dCut x lo hi
theorem qp_cut {lo hi : Option Expr} {tl tu : TO} {f : FP} {l u : FPt} {p2 : Pos} (he : QB X K T ea ta f) (hl : QPt X K T lo tl l) (hu : QPt X K T hi tu u) : QP X K T (.Subscript ea (.Slice lo hi none p2) pos) (tSl (rCutG K) ta tl tu) (fCut f l u) := ⟨he.k, pe_slice (he.k ▸ sl_cutG) he.pe hl.po hu.po, fun B a z Q o ef k => by
  unfold fCut at ef
  cases e1 : f a.r with
  | none => rw [e1] at ef; cases ef
  | some x =>
    rw [e1, Option.bind_some] at ef
    cases e2 : l a.r with
    | none => rw [e2] at ef; cases ef
    | some lo' =>
      rw [e2, Option.bind_some] at ef
      cases e3 : u a.r with
      | none => rw [e3] at ef; cases ef
      | some hi' =>
        rw [e3, Option.bind_some] at ef
        refine he.so B a x _ o e1 fun v g1 h1 o1 n1 r1 => ?_
        refine hl.so B ⟨g1, h1, a.s, a.r⟩ lo' _ o1 e2 fun g2 h2 o2 n2 => ?_
        refine hu.so B ⟨g2, h2, a.s, a.r⟩ hi' _ o2 e3 fun g3 h3 o3 n3 => ?_
        have r3 := (r1.nxt n2 rfl rfl).nxt n3 rfl rfl
        have n13 := n1.trans (n2.trans n3)
        cases x with
        | list ds =>
          cases ef
          obtain ⟨p, vs, rfl, hs, t⟩ := r3.list o3
          refine ⟨p, vs, rfl, .inl ⟨hs, fun q hq => ?_⟩⟩
          exact k _ _ _ (o3.newG hq trivial) (n13.trans (o3.newG_nxt hq)) (.lst (SqL.of upd_same) (dpa_sub (Sub.new (o3.gn hq)) (cut_dpa t _ _)))
        | tuple ds =>
          cases ef
          obtain ⟨p, vs, rfl, hg, hs, t⟩ := r3.tuple o3
          refine ⟨p, vs, rfl, .inr ⟨hs, fun ew => ?_, fun q ob hd hq => ?_⟩⟩
          · refine k _ g3 h3 o3 n13 (.tup hg ?_)
            rw [← ew]
            exact cut_dpa t _ _
          · exact k _ _ _ (o3.newG hq hd) (n13.trans (o3.newG_nxt hq)) (.tup (.inl (.inr ⟨ob, upd_same⟩)) (dpa_sub (Sub.new (o3.gn hq)) (cut_dpa t _ _)))
        | _ => cases ef⟩
end
end Pv

set_option Elab.async false
set_option linter.all false
set_option maxRecDepth 100000
set_option maxHeartbeats 2000000
namespace Pv
open PySem PySem.Spec PyProof.Rows L2 Lb

section
variable {X : Cx} {K : PySem.W.Frag} {T : Addr → Prop} {ea eb ec e : Expr} {ta tb tc te : TE} {p pos : Pos}
/-! ### x[::-1] -/
def kRevG (K : PySem.W.Frag) : V → Hp → VK → Prop := fun x H Q => ∃ (a : Addr) (xs : List V), x = .ref a ∧ ((SqL K H a xs ∧ ∀ p, H p = none → Q (.ref p) (upd H p (.lst xs.reverse))) ∨ (SqT K H a xs ∧ ∀ (p : Addr) (o : Obj), o.dict = none → H p = none → Q (.ref p) (upd H p (.frz o (.tup xs.reverse)))))
theorem pe_revG {k : Nat} {p1 p2 p3 pos : Pos} (he : PE X e te) : PE X (.Subscript e (.Slice none none (some (.UnaryOp .USub (.Constant (.int 1) k p1) p2)) p3) pos) (tThen te (kRevG X.K)) := by
  refine ⟨fun pins s σ H Q I h => ?_⟩
  refine Subscript_ (thn (he.run pins s σ H _ I h) fun v s1 ⟨x, H1, I1, r1, q0⟩ => ?_)
  obtain ⟨a, xs, ex, q⟩ := q0
  subst ex
  cases r1
  have step : PO X (some (.UnaryOp .USub (.Constant (.int 1) k p1) p2)) (tPart (tUn (rU fun i => .int (-i)) (tC (.int 1)))) := po_some (pe_un un_neg pe_int)
  refine wpAny_Slice (thn (po_none.run pins s1 σ H1 (fun o H2 => o = none ∧ H2 = H1) I1 ⟨rfl, rfl⟩) fun vl s2 ⟨l, H2, I2, pl, el, e2⟩ => ?_)
  subst el e2
  refine thn (po_none.run pins s2 σ H2 (fun o H3 => o = none ∧ H3 = H2) I2 ⟨rfl, rfl⟩) fun vu s3 ⟨u, H3, I3, pu, eu, e3⟩ => ?_
  subst eu e3
  refine thn (step.run pins s3 σ H3 (fun o H4 => o = some (-1) ∧ H4 = H3) I3 ⟨1, rfl, -1, rfl, rfl, rfl⟩) fun vs s4 ⟨o, H4, I4, ps, eo, e4⟩ => ?_
  subst eo e4
  cases pl
  cases pu
  cases ps with
  | int _ tk =>
    have I5 : L2.Inv X pins σ H4 { s4 with heap := s4.heap.push { cls := .type "slice", data := .fields #[.none, .none, .int (-1) tk] } } := I4.kept (t' := s4.toks) fun b ob q => Heap.get?_push_of_some _ q
    rcases q with ⟨hs, q⟩ | ⟨hs, q⟩
    · obtain ⟨its, r, ht, hz⟩ := I5.list hs
      refine tail_any (ops := [.ref a, .ref s4.heap.objs.size]) ht.isList.typeIs (PySem.slot_list_getitem.lookup) ?_ (by with_unfolding_all rfl)
      refine wpAny_getItem_list_slice ht.isList (Heap.IsSliceOf.new _ _ _ _) .none .none (.int _ _) (by decide) ?_ (by rw [List.size_toArray, ← r.length]; exact hz)
      rw [PySem.W.krv_pick]
      refine ⟨.ref _, _, I5.laid (t' := s4.toks) (o := .lst xs.reverse) (fun b ob q => Heap.get?_push_of_some _ q) (Nat.le_refl _) ?_, rfl, q _ (I5.hok.fresh (Nat.le_refl _))⟩
      exact ⟨by rw [List.length_reverse]; exact hz, _, 0, r.reverse, Heap.get?_push_size _ rfl⟩
    · obtain ⟨its, r, ht, hz⟩ := I5.tuple hs
      refine tail_any (ops := [.ref a, .ref s4.heap.objs.size]) (show IsTup _ a its.toArray from ht).typeIs (slot_tuple_getitem.lookup) ?_ (by with_unfolding_all rfl)
      refine getItem_tuple_back ht (Heap.IsSliceOf.new _ _ _ _) (by rw [← r.length]; exact hz) ?_
      exact ⟨.ref _, _, inv_frz I5 (fun b o e => e) (by rw [List.length_reverse]; exact hz) r.reverse s4.toks, rfl, q _ _ rfl (I5.hok.fresh (Nat.le_refl _))⟩
def dRev (d : D) : Option D := match d with
  | .list ds => some (.list ds.reverse)
  | .tuple ds => some (.tuple ds.reverse)
  | _ => none
theorem up_rev : UP K T (kRevG K) dRev := fun B a x d z Q o rx ef k => by
  unfold dRev at ef
  cases d with
  | list ds =>
    cases ef
    obtain ⟨p, vs, rfl, hs, t⟩ := rx.list o
    exact ⟨p, vs, rfl, .inl ⟨hs, fun q hq => k _ _ _ (o.newG hq trivial) (o.newG_nxt hq) (.lst (SqL.of upd_same) (dpa_sub (Sub.new (o.gn hq)) (dpa_rev t)))⟩⟩
  | tuple ds =>
    cases ef
    obtain ⟨p, vs, rfl, hg, hs, t⟩ := rx.tuple o
    exact ⟨p, vs, rfl, .inr ⟨hs, fun q ob hd hq => k _ _ _ (o.newG hq hd) (o.newG_nxt hq) (.tup (.inl (.inr ⟨ob, upd_same⟩)) (dpa_sub (Sub.new (o.gn hq)) (dpa_rev t)))⟩⟩
  | _ => cases ef
theorem qp_rev {k : Nat} {p1 p2 p3 pos : Pos} {f : FP} (he : QB X K T e te f) : QP X K T (.Subscript e (.Slice none none (some (.UnaryOp .USub (.Constant (.int 1) k p1) p2)) p3) pos) (tThen te (kRevG K)) (f1 dRev f) := ⟨he.k, he.k ▸ pe_revG he.pe, sp_u up_rev he.so⟩

/-! ### x.index(k): whole numbers, k among them -/
/-- a tuple that is known to have no dict of its own -/
def KnT (K : PySem.W.Frag) (H : Hp) (a : Addr) (xs : List V) : Prop := (∃ o : Obj, o.dict = none ∧ H a = some (.frz o (.tup xs))) ∨ ∃ (o : Obj), K.lookup a = some o ∧ o.dict = none ∧ SqT K H a xs
def tIdxG (K : PySem.W.Frag) (to : TE) (te : TE) : TE := fun σ H Q => to σ H fun x H1 => ∃ (a : Addr) (ns : List Int), x = .ref a ∧
  ((SqL K H1 a (ns.map V.int) ∧ te σ H1 fun v H2 => ∃ k : Int, v = .int k ∧ SqL K H2 a (ns.map V.int) ∧ k ∈ ns ∧ Q (.int ((ns.idxOf k : Nat) : Int)) H2) ∨
   (KnT K H1 a (ns.map V.int) ∧ te σ H1 fun v H2 => ∃ k : Int, v = .int k ∧ SqT K H2 a (ns.map V.int) ∧ k ∈ ns ∧ Q (.int ((ns.idxOf k : Nat) : Int)) H2))
theorem arg_one {te : TE} {σ : L2.St} {H : Hp} {R : Int → Hp → Prop} (h : te σ H (fun v H2 => ∃ k : Int, v = .int k ∧ R k H2)) : tCons te tNil σ H (fun vs H2 => ∃ k : Int, vs = [.int k] ∧ R k H2) := by
  have e : (fun (v : V) (H2 : Hp) => ∃ k : Int, v = .int k ∧ R k H2) = (fun v H2 => tNil σ H2 fun xs H3 => ∃ k : Int, (v :: xs) = [.int k] ∧ R k H3) := by
    funext v H2
    unfold tNil
    apply propext
    constructor
    · rintro ⟨k, rfl, r⟩
      exact ⟨k, rfl, r⟩
    · rintro ⟨k, e3, r⟩
      cases e3
      exact ⟨k, rfl, r⟩
  show te σ H (fun v H2 => tNil σ H2 fun xs H3 => ∃ k : Int, (v :: xs) = [.int k] ∧ R k H3)
  rw [← e]
  exact h
theorem pe_idxG {o e : Expr} {to te : TE} {apos cpos : Pos} (ho : PE X o to) (ha : PE X e te)
    (hbase : attributeBase o "index" X.env (eval o X.env) = eval o X.env := by rfl)
    (hfew : ((backTo cpos (starEach [e] X.env)).all (fun x => !x.1) && (backToKw cpos (keywordEach [] X.env)).all (fun x => x.1.isSome) && decide ([e].length + ([] : List Keyword).length + (if ([] : List Keyword).isEmpty then 0 else 1) < 30)) = true := by rfl)
    (hline : (apos.endLine == cpos.line) = true := by rfl) (hs : starEach [e] X.env = (false, eval e X.env) :: starEach [] X.env := by rfl) :
    PE X (.Call (.Attribute o "index" apos) [e] [] cpos) (tIdxG X.K to te) := by
  refine ⟨fun pins s σ H Q I h => ?_⟩
  refine wpAny_Call_method_late hbase hfew hline rfl (thn (ho.run pins s σ H _ I h) fun v s1 ⟨x, H1, I1, r1, q0⟩ => ?_)
  obtain ⟨a, ns, ex, q1⟩ := q0
  subst ex
  cases r1
  rcases q1 with ⟨hl, q1⟩ | ⟨hk, q1⟩
  · have arg := (pa_cons ha pa_nil hs).run cpos pins s1 σ H1 _ I1 (arg_one q1)
    rw [hs] at arg ⊢
    obtain ⟨its, rv, ⟨ob, n, hob, hc, hdn, hdt⟩, hz⟩ := I1.list hl
    refine ⟨"list", "list.index", PySem.F.plainAttrs_list, PySem.F.slot_list_index, PySem.F.type_list_index, ⟨_, hob, hc⟩, fun b eb => ?_, ?_⟩
    · cases eb
      exact ⟨_, hob, hdn⟩
    · refine Calls.callWith_builtin (by rfl) (Calls.evalArgs_plain (thn arg fun us s2 ⟨vs, H2, I2, r2, k, ev, l2, hk, q2⟩ => ?_))
      subst ev
      exact (idx_run I2 r2 hk q2).1 l2
  · have arg := (pa_cons ha pa_nil hs).run cpos pins s1 σ H1 _ I1 (arg_one q1)
    rw [hs] at arg ⊢
    have fact : ∃ ob, s1.heap.get? a = some ob ∧ ob.cls = .type "tuple" ∧ ob.dict = none := by
      rcases hk with ⟨ob, hd, oa⟩ | ⟨ob, hk, hd, ht⟩
      · obtain ⟨hob, _, its, _, o3, e3, c3, _⟩ := I1.hok a _ oa
        rw [hob] at e3
        cases e3
        exact ⟨ob, hob, c3, hd⟩
      · obtain ⟨its, rv, ⟨o3, e3, c3, _⟩, _⟩ := I1.tuple ht
        have e4 := I1.kIn a ob hk
        rw [e4] at e3
        cases e3
        exact ⟨ob, e4, c3, hd⟩
    obtain ⟨ob, hob, c3, hd⟩ := fact
    refine ⟨"tuple", "tuple.index", PySem.F.plainAttrs_tuple, PySem.F.slot_tuple_index, PySem.F.type_tuple_index, ⟨_, hob, c3⟩, fun b eb => ?_, ?_⟩
    · cases eb
      exact ⟨_, hob, hd⟩
    · refine Calls.callWith_builtin (by rfl) (Calls.evalArgs_plain (thn arg fun us s2 ⟨vs, H2, I2, r2, k, ev, t2, hk, q2⟩ => ?_))
      subst ev
      exact (idx_run I2 r2 hk q2).2 t2
/-- no written tuple has a dict of its own -/
def KT (K : PySem.W.Frag) : Prop := ∀ a o, K.lookup a = some o → o.cls = .type "tuple" → o.dict = none
def dIdx (d e : D) : Option D := match e with
  | .int k => (intsOf d).bind fun ns => if k ∈ ns then some (.int ((ns.idxOf k : Nat) : Int)) else none
  | _ => none
theorem dIdx_inv {d e z : D} (h : dIdx d e = some z) : ∃ k ns, e = .int k ∧ intsOf d = some ns ∧ k ∈ ns ∧ z = .int ((ns.idxOf k : Nat) : Int) := by
  unfold dIdx at h
  split at h
  · rename_i k
    cases e3 : intsOf d with
    | none => rw [e3] at h; cases h
    | some ns =>
      rw [e3, Option.bind_some] at h
      split at h
      · rename_i hm
        cases h
        exact ⟨k, ns, rfl, rfl, hm, rfl⟩
      · cases h
  · cases h
theorem qp_idx {o e : Expr} {to te : TE} {apos cpos : Pos} {f g : FP} (kt : KT K) (ho : QB X K T o to f) (ha : QB X K T e te g)
    (hbase : attributeBase o "index" X.env (eval o X.env) = eval o X.env := by rfl)
    (hfew : ((backTo cpos (starEach [e] X.env)).all (fun x => !x.1) && (backToKw cpos (keywordEach [] X.env)).all (fun x => x.1.isSome) && decide ([e].length + ([] : List Keyword).length + (if ([] : List Keyword).isEmpty then 0 else 1) < 30)) = true := by rfl)
    (hline : (apos.endLine == cpos.line) = true := by rfl) (hs : starEach [e] X.env = (false, eval e X.env) :: starEach [] X.env := by rfl) :
    QP X K T (.Call (.Attribute o "index" apos) [e] [] cpos) (tIdxG K to te) (f2 dIdx f g) := ⟨ho.k, ho.k ▸ pe_idxG ho.pe ha.pe hbase hfew hline hs, fun B a z Q ok ef k => by
  unfold f2 at ef
  cases e1 : f a.r with
  | none => rw [e1] at ef; cases ef
  | some x =>
    rw [e1, Option.bind_some] at ef
    cases e2 : g a.r with
    | none => rw [e2] at ef; cases ef
    | some y =>
      rw [e2, Option.bind_some] at ef
      obtain ⟨kk, ns, rfl, e3, hm, rfl⟩ := dIdx_inv ef
      refine ho.so B a x _ ok e1 fun v g1 h1 o1 n1 r1 => ?_
      unfold intsOf at e3
      cases x with
      | list ds =>
        have e3 : intsD ds = some ns := e3
        obtain ⟨q, vs, rfl, hl, t⟩ := r1.list o1
        refine ⟨q, ns, rfl, .inl ⟨by rw [← dpa_ints t e3]; exact hl, ha.so B ⟨g1, h1, a.s, a.r⟩ _ _ o1 e2 fun w g2 h2 o2 n2 r2 => ?_⟩⟩
        cases r2.int
        obtain ⟨q2, vs2, ev, hl2, t2⟩ := (r1.nxt n2 rfl rfl).list o2
        cases ev
        exact ⟨kk, rfl, by rw [← dpa_ints t2 e3]; exact hl2, hm, k _ g2 h2 o2 (n1.trans n2) (.int _)⟩
      | tuple ds =>
        have e3 : intsD ds = some ns := e3
        obtain ⟨q, vs, rfl, hg, hl, t⟩ := r1.tuple o1
        refine ⟨q, ns, rfl, .inr ⟨?_, ha.so B ⟨g1, h1, a.s, a.r⟩ _ _ o1 e2 fun w g2 h2 o2 n2 r2 => ?_⟩⟩
        · rw [← dpa_ints t e3]
          rcases hg with (hg | ⟨ob, hg⟩) | ⟨ob, its, m, hk, hc, hd, r⟩
          · exact (o1.kn _ _ hg).elim
          · exact .inl ⟨ob, o1.kn _ _ hg, o1.le _ _ hg⟩
          · exact .inr ⟨ob, hk, kt _ _ hk hc, .inr ⟨ob, its, m, hk, hc, hd, r⟩⟩
        · cases r2.int
          obtain ⟨q2, vs2, ev, _, hl2, t2⟩ := (r1.nxt n2 rfl rfl).tuple o2
          cases ev
          exact ⟨kk, rfl, by rw [← dpa_ints t2 e3]; exact hl2, hm, k _ g2 h2 o2 (n1.trans n2) (.int _)⟩
      | _ => cases e3⟩

/-! ### a < b <= c (whole numbers) -/
def fChain (p q : Int → Int → Bool) (f g h : FP) : FP := fun r => (f r).bind fun x => (g r).bind fun y => match x, y with
  | .int i, .int j => if p i j = true then (h r).bind fun z => match z with | .int k => some (.bool (q j k)) | _ => none else some (.bool false)
  | _, _ => none
theorem qp_chain {op op' : CmpOp} {pp qq : Int → Int → Bool} {f g h : FP} (h1 : OpR X (compareOp op) (rI0 fun i j => .bl (pp i j))) (h2 : OpR X (compareOp op') (rI0 fun i j => .bl (qq i j))) (ha : QB X K T ea ta f) (hb : QB X K T eb tb g) (hc : QB X K T ec tc h)
    (hm : lastMarks [op, op'] [eb, ec] = false := by with_unfolding_all rfl) : QP X K T (.Compare ea [op, op'] [eb, ec] pos) (tChain (rI0 fun i j => .bl (pp i j)) (rI0 fun i j => .bl (qq i j)) ta tb tc) (fChain pp qq f g h) := ⟨ha.k, pe_chain h1 h2 ha.pe hb.pe hc.pe hm, fun B a z Q o ef k => by
  unfold fChain at ef
  cases e1 : f a.r with
  | none => rw [e1] at ef; cases ef
  | some x =>
    rw [e1, Option.bind_some] at ef
    cases e2 : g a.r with
    | none => rw [e2] at ef; cases ef
    | some y =>
      rw [e2, Option.bind_some] at ef
      cases x with
      | int i =>
        cases y with
        | int j =>
          have ef : (if pp i j = true then (h a.r).bind fun z => match z with | .int k => some (PyData.bool (qq j k)) | _ => none else some (.bool false)) = some z := ef
          refine ha.so B a _ _ o e1 fun v g1 h1 o1 n1 r1 => ?_
          refine hb.so B ⟨g1, h1, a.s, a.r⟩ _ _ o1 e2 fun w g2 h2 o2 n2 r2 => ?_
          cases r1.int
          cases r2.int
          refine ⟨i, j, rfl, rfl, pp i j, rfl, ?_⟩
          cases e4 : pp i j with
          | true =>
            rw [e4, if_pos rfl] at ef
            rw [if_pos rfl]
            cases e3 : h a.r with
            | none => rw [e3] at ef; cases ef
            | some u =>
              rw [e3, Option.bind_some] at ef
              cases u with
              | int m =>
                cases ef
                refine hc.so B ⟨g2, h2, a.s, a.r⟩ _ _ o2 e3 fun w g3 h3 o3 n3 r3 => ?_
                cases r3.int
                exact ⟨j, m, rfl, rfl, k _ g3 h3 o3 (n1.trans (n2.trans n3)) (.bl _)⟩
              | _ => cases ef
          | false =>
            rw [e4, if_neg Bool.false_ne_true] at ef
            rw [if_neg Bool.false_ne_true]
            cases ef
            exact k _ g2 h2 o2 (n1.trans n2) (.bl _)
        | _ => cases ef
      | _ => cases ef⟩
end

/-! ### lists and tuples put together -/
def fCatO (f g : FO) : FO := fun r => (f r).bind fun p => (g p.2).bind fun q => if p.1.length + q.1.length ≤ BIG then some (p.1 ++ q.1, q.2) else none
def fRepO (f : FO) (g : FP) : FO := fun r => (f r).bind fun p => (g p.2).bind fun x => match x with | .int k => if (isSm k && decide (p.1.length * k.toNat ≤ BIG)) = true then some ((List.replicate k.toNat p.1).flatten, p.2) else none | _ => none
def dCatT (d e : D) : Option D := match d, e with
  | .tuple xs, .tuple ys => if xs.length + ys.length ≤ BIG then some (.tuple (xs ++ ys)) else none
  | _, _ => none
section
variable {X : Cx} {K : PySem.W.Frag} {T : Addr → Prop} {ea eb ec e : Expr} {ta tb tc te : TE} {p pos : Pos}
theorem qo_cat {f g : FO} (ha : QO X K T ea ta f) (hb : QO X K T eb tb g) : QO X K T (.BinOp ea .Add eb pos) (tOp rCat ta tb) (fCatO f g) := ⟨ha.k, pe_op op_cat ha.pe hb.pe, fun B a zs r' Q o ef k => by
  unfold fCatO at ef
  cases e1 : f a.r with
  | none => rw [e1] at ef; cases ef
  | some q =>
    obtain ⟨xs, r1⟩ := q
    rw [e1, Option.bind_some] at ef
    cases e2 : g r1 with
    | none => rw [e2] at ef; cases ef
    | some q =>
      obtain ⟨ys, r2⟩ := q
      rw [e2, Option.bind_some] at ef
      split at ef
      · rename_i hz
        cases ef
        refine ha.so B a xs r1 _ o e1 fun p vs g1 h1 o1 n1 hp e3 gp wp xp => ?_
        refine hb.so B ⟨g1, h1, a.s, r1⟩ ys _ _ o1 e2 fun q ws g2 h2 o2 n2 hq e4 gq wq xq => ?_
        obtain ⟨e5, g5, w5⟩ := n2.fr p _ gp (o1.lstT e3) wp e3
        refine ⟨p, q, vs, ws, rfl, rfl, e5, e4, by rw [dpa_len xp, dpa_len xq]; exact Nat.le_trans hz big_line, fun l hl => ?_⟩
        exact k l _ g2 _ (o2.newH hl) (n1.trans (n2.trans (o2.newH_nxt hl))) (n1.dm l (n2.dm l hl)) upd_same (o2.gn hl) (o2.untied hl) (dpa_app (dpa_sub n2.le xp) xq)
      · cases ef⟩
theorem dpa_flat {G : Hp} {vs : List V} {ds : List D} (h : DpAll K G vs ds) : ∀ k : Nat, DpAll K G (List.replicate k vs).flatten (List.replicate k ds).flatten
  | 0 => .nil
  | k + 1 => by
    rw [List.replicate_succ, List.replicate_succ, List.flatten_cons, List.flatten_cons]
    exact dpa_app h (dpa_flat h k)
theorem qo_rep {f : FO} {g : FP} (ha : QO X K T ea ta f) (hb : QB X K T eb tb g) : QO X K T (.BinOp ea .Mult eb pos) (tOp rRep ta tb) (fRepO f g) := ⟨ha.k, pe_op op_rep ha.pe hb.pe, fun B a zs r' Q o ef k => by
  unfold fRepO at ef
  cases e1 : f a.r with
  | none => rw [e1] at ef; cases ef
  | some q =>
    obtain ⟨xs, r1⟩ := q
    rw [e1, Option.bind_some] at ef
    cases e2 : g r1 with
    | none => rw [e2] at ef; cases ef
    | some y =>
      rw [e2, Option.bind_some] at ef
      cases y with
      | int m =>
        have ef : (if (isSm m && decide (xs.length * m.toNat ≤ BIG)) = true then some ((List.replicate m.toNat xs).flatten, r1) else none) = some (zs, r') := ef
        split at ef
        · rename_i hz
          simp only [Option.some.injEq, Prod.mk.injEq] at ef
          obtain ⟨rfl, rfl⟩ := ef
          simp only [Bool.and_eq_true, decide_eq_true_eq] at hz
          have hz := And.intro (isSm_b hz.1) hz.2
          refine ha.so B a xs r1 _ o e1 fun p vs g1 h1 o1 n1 hp e3 gp wp xp => ?_
          refine hb.so B ⟨g1, h1, a.s, r1⟩ _ _ o1 e2 fun w g2 h2 o2 n2 r2 => ?_
          cases r2.int
          obtain ⟨e5, g5, w5⟩ := n2.fr p _ gp (o1.lstT e3) wp e3
          refine ⟨p, m, vs, rfl, rfl, e5, by omega, by omega, by rw [dpa_len xp]; exact Nat.le_trans hz.2 big_line, fun l hl => ?_⟩
          exact k l _ g2 _ (o2.newH hl) (n1.trans (n2.trans (o2.newH_nxt hl))) (n1.dm l (n2.dm l hl)) upd_same (o2.gn hl) (o2.untied hl) (dpa_flat (dpa_sub n2.le xp) _)
        · cases ef
      | _ => cases ef⟩
def rCatTG (K : PySem.W.Frag) : R2 := fun x y H Q => ∃ a b xs ys, x = .ref a ∧ y = .ref b ∧ SqT K H a xs ∧ SqT K H b ys ∧ xs.length + ys.length ≤ sizeLine ∧
  (xs = [] → Q (.ref b) H) ∧ (xs ≠ [] → ys = [] → Q (.ref a) H) ∧ (xs ≠ [] → ys ≠ [] → ∀ (p : Addr) (o : Obj), o.dict = none → H p = none → Q (.ref p) (upd H p (.frz o (.tup (xs ++ ys)))))
theorem op_catTG : OpR X (binaryOp .Add) (rCatTG X.K) := by
  intro pins s σ H x y v u Q I rx ry h
  obtain ⟨a, b, xs, ys, rfl, rfl, ha, hb, hz, q0, q1, q2⟩ := h
  by_cases e : xs = []
  · exact op_catA pins s σ H _ _ v u Q I rx ry ⟨a, b, xs, ys, rfl, rfl, ha, hb, hz, q0, fun z => absurd e z, fun z => absurd e z⟩
  · by_cases e2 : ys = []
    · exact op_catA pins s σ H _ _ v u Q I rx ry ⟨a, b, xs, ys, rfl, rfl, ha, hb, hz, fun z => absurd z e, q1, fun _ z => absurd e2 z⟩
    · cases rx
      cases ry
      obtain ⟨its, r1, p1, _⟩ := I.tuple ha
      obtain ⟨its2, r2, p2, _⟩ := I.tuple hb
      have n1 : its ≠ [] := fun z => by
        have l1 := r1.length
        rw [z] at l1
        exact e (List.length_eq_zero_iff.mp l1)
      have n2 : its2 ≠ [] := fun z => by
        have l2 := r2.length
        rw [z] at l2
        exact e2 (List.length_eq_zero_iff.mp l2)
      refine HT.cat_tup p1 p2 n1 (fun z => absurd z n2) (fun _ => ?_) (by rw [← r1.length, ← r2.length]; exact hz)
      exact ⟨.ref s.heap.objs.size, _, inv_frz I (fun b o e => e) (by rw [List.length_append]; exact hz) (r1.append r2) s.toks, rfl, q2 e e2 _ _ rfl (I.hok.fresh (Nat.le_refl _))⟩
theorem os_catT : OpS K T (rCatTG K) dCatT := fun B a v u d e z Q o rv ru ef k => by
  unfold dCatT at ef
  split at ef
  · rename_i xs ys
    split at ef
    · rename_i hz
      cases ef
      obtain ⟨p, vs, rfl, hg, hs, t⟩ := rv.tuple o
      obtain ⟨q, ws, rfl, hg2, hs2, t2⟩ := ru.tuple o
      refine ⟨p, q, vs, ws, rfl, rfl, hs, hs2, by rw [dpa_len t, dpa_len t2]; exact Nat.le_trans hz big_line, fun e => ?_, fun _ e => ?_, fun _ _ l ob hd hl => ?_⟩
      · subst e
        cases t
        exact k _ a.g a.h o .refl (.tup hg2 t2)
      · subst e
        cases t2
        rw [List.append_nil] at k
        exact k _ a.g a.h o .refl (.tup hg t)
      · exact k _ _ _ (o.newG hl hd) (o.newG_nxt hl) (.tup (.inl (.inr ⟨ob, upd_same⟩)) (dpa_sub (Sub.new (o.gn hl)) (dpa_app t t2)))
    · cases ef
  · cases ef
theorem qp_catT {f g : FP} (ha : QB X K T ea ta f) (hb : QB X K T eb tb g) : QP X K T (.BinOp ea .Add eb pos) (tOp (rCatTG K) ta tb) (f2 dCatT f g) := qp_op (ha.k ▸ op_catTG) os_catT ha hb
theorem qh_catT {f g : FH} (ha : QH X K T ea ta f) (hb : QH X K T eb tb g) : QH X K T (.BinOp ea .Add eb pos) (tOp (rCatTG K) ta tb) (h2 dCatT f g) := qh_op (ha.k ▸ op_catTG) os_catT ha hb

/-! ### methods of a list of one's own -/
def fApp (i : Nat) (f : FH) : FH := fun r => if isOw r i = true then (f r).bind fun p => (owOf p.2 i).bind fun z => if z.2.length < BIG then some (.none, p.2.set i (some (Sl.ow z.1 (z.2 ++ [p.1])))) else none else none
def fExt (i : Nat) (f : FO) : FH := fun r => if isOw r i = true then (f r).bind fun p => (owOf p.2 i).bind fun z => if z.2.length + p.1.length ≤ BIG then some (.none, p.2.set i (some (Sl.ow z.1 (z.2 ++ p.1)))) else none else none
def fPopAt (i : Nat) (f : FH) : FH := fun r => if isOw r i = true then (f r).bind fun p => match p.1 with
  | .int k => (owOf p.2 i).bind fun z => if isSm k = true then (ixN z.2.length k).bind fun j => (z.2[j]?).map fun y => (y, p.2.set i (some (Sl.ow z.1 (z.2.eraseIdx j)))) else none
  | _ => none else none
def fPop (i : Nat) : FH := fun r => (owOf r i).bind fun z => (z.2[z.2.length - 1]?).map fun y => (y, r.set i (some (Sl.ow z.1 z.2.dropLast)))
def fClear (i : Nat) : FH := fun r => (owOf r i).map fun z => (.none, r.set i (some (Sl.ow z.1 [])))
theorem dpa_dropLast {G : Hp} {vs : List V} {ds : List D} (h : DpAll K G vs ds) : DpAll K G vs.dropLast ds.dropLast := by
  rw [List.dropLast_eq_take, List.dropLast_eq_take, dpa_len h]
  exact dpa_take _ h
theorem qh_app (i : Nat) {nm apos : Pos} {o : Expr} {f : FH} (ho : PE X o (tVar i)) (ha : QH X K T e te f)
    (hbase : attributeBase o "append" X.env (eval o X.env) = eval o X.env := by rfl)
    (hfew : ((backTo pos (starEach [e] X.env)).all (fun x => !x.1) && (backToKw pos (keywordEach [] X.env)).all (fun x => x.1.isSome) && decide ([e].length + ([] : List Keyword).length + (if ([] : List Keyword).isEmpty then 0 else 1) < 30)) = true := by rfl)
    (hline : (apos.endLine == pos.line) = true := by rfl) (hs : starEach [e] X.env = (false, eval e X.env) :: starEach [] X.env := by rfl) (hpl : (backTo pos (starEach [] X.env)).any (·.1) = false := by rfl) :
    QH X K T (.Call (.Attribute o "append" apos) [e] [] pos) (tBM K "list" rAppend (tVar i) (tCons te tNil)) (fApp i f) := ⟨ha.k, ha.k ▸ pe_bm PySem.F.plainAttrs_list PySem.F.slot_list_append PySem.F.type_list_append mt_append ho (pa_cons ha.pe pa_nil hs) hbase hfew hline hs hpl, fun B a d r' Q ok ef k => by
  unfold fApp at ef
  split at ef
  · rename_i ow
    obtain ⟨b0, d0, ei0⟩ := isOw_eq ow
    obtain ⟨p0, vs0, ev, hp0, _⟩ := ok.ow i b0 d0 ei0
    cases e1 : f a.r with
    | none => rw [e1] at ef; cases ef
    | some q =>
      obtain ⟨x, r1⟩ := q
      rw [e1, Option.bind_some] at ef
      cases ez : owOf r1 i with
      | none => simp [ez] at ef
      | some z =>
        obtain ⟨b, zs⟩ := z
        simp only [ez, Option.bind_some] at ef
        split at ef
        · rename_i hz
          cases ef
          refine ⟨.ref p0, ev, .inl ⟨rfl, vs0, SqL.of hp0⟩, ha.so B a x r1 _ ok e1 fun v g1 h1 o1 n1 x1 => ?_⟩
          obtain ⟨p, us, s, hp, gp, _, xp⟩ := o1.ow i b zs (owOf_eq ez)
          have s2 : a.s[i]? = some (some (.ref p)) := s
          rw [ev] at s2
          cases s2
          refine ⟨p0, us, v, rfl, rfl, hp, by rw [dpa_len xp]; exact Nat.lt_of_lt_of_le hz big_line, ?_⟩
          exact k _ _ _ (o1.write (owOf_eq ez) s hp (dpa_snoc xp x1)) (n1.trans (Nxt.write o1 (owOf_eq ez) s)) .non
        · cases ef
  · cases ef⟩
theorem qh_ext (i : Nat) {apos : Pos} {o : Expr} {f : FO} (ho : PE X o (tVar i)) (ha : QO X K T e te f)
    (hbase : attributeBase o "extend" X.env (eval o X.env) = eval o X.env := by rfl)
    (hfew : ((backTo pos (starEach [e] X.env)).all (fun x => !x.1) && (backToKw pos (keywordEach [] X.env)).all (fun x => x.1.isSome) && decide ([e].length + ([] : List Keyword).length + (if ([] : List Keyword).isEmpty then 0 else 1) < 30)) = true := by rfl)
    (hline : (apos.endLine == pos.line) = true := by rfl) (hs : starEach [e] X.env = (false, eval e X.env) :: starEach [] X.env := by rfl) (hpl : (backTo pos (starEach [] X.env)).any (·.1) = false := by rfl) :
    QH X K T (.Call (.Attribute o "extend" apos) [e] [] pos) (tBM K "list" rExtend (tVar i) (tCons te tNil)) (fExt i f) := ⟨ha.k, ha.k ▸ pe_bm PySem.F.plainAttrs_list PySem.F.slot_list_extend PySem.F.type_list_extend mt_extend ho (pa_cons ha.pe pa_nil hs) hbase hfew hline hs hpl, fun B a d r' Q ok ef k => by
  unfold fExt at ef
  split at ef
  · rename_i ow
    obtain ⟨b0, d0, ei0⟩ := isOw_eq ow
    obtain ⟨p0, vs0, ev, hp0, _⟩ := ok.ow i b0 d0 ei0
    cases e1 : f a.r with
    | none => rw [e1] at ef; cases ef
    | some q =>
      obtain ⟨xs, r1⟩ := q
      rw [e1, Option.bind_some] at ef
      cases ez : owOf r1 i with
      | none => simp [ez] at ef
      | some z =>
        obtain ⟨b, zs⟩ := z
        simp only [ez, Option.bind_some] at ef
        split at ef
        · rename_i hz
          cases ef
          refine ⟨.ref p0, ev, .inl ⟨rfl, vs0, SqL.of hp0⟩, ha.so B a xs r1 _ ok e1 fun q ws g1 h1 o1 n1 hq eq gq wq xq => ?_⟩
          obtain ⟨p, us, s, hp, gp, _, xp⟩ := o1.ow i b zs (owOf_eq ez)
          have s2 : a.s[i]? = some (some (.ref p)) := s
          rw [ev] at s2
          cases s2
          refine ⟨p0, q, us, ws, rfl, rfl, hp, eq, by rw [dpa_len xp, dpa_len xq]; exact Nat.le_trans hz big_line, ?_⟩
          exact k _ _ _ (o1.write (owOf_eq ez) s hp (dpa_app xp xq)) (n1.trans (Nxt.write o1 (owOf_eq ez) s)) .non
        · cases ef
  · cases ef⟩
theorem qh_popAt (i : Nat) {apos : Pos} {o : Expr} {f : FH} (ho : PE X o (tVar i)) (ha : QH X K T e te f)
    (hbase : attributeBase o "pop" X.env (eval o X.env) = eval o X.env := by rfl)
    (hfew : ((backTo pos (starEach [e] X.env)).all (fun x => !x.1) && (backToKw pos (keywordEach [] X.env)).all (fun x => x.1.isSome) && decide ([e].length + ([] : List Keyword).length + (if ([] : List Keyword).isEmpty then 0 else 1) < 30)) = true := by rfl)
    (hline : (apos.endLine == pos.line) = true := by rfl) (hs : starEach [e] X.env = (false, eval e X.env) :: starEach [] X.env := by rfl) (hpl : (backTo pos (starEach [] X.env)).any (·.1) = false := by rfl) :
    QH X K T (.Call (.Attribute o "pop" apos) [e] [] pos) (tBM K "list" rPopAt (tVar i) (tCons te tNil)) (fPopAt i f) := ⟨ha.k, ha.k ▸ pe_bm PySem.F.plainAttrs_list PySem.F.slot_list_pop PySem.F.type_list_pop mt_popAt ho (pa_cons ha.pe pa_nil hs) hbase hfew hline hs hpl, fun B a d r' Q ok ef k => by
  unfold fPopAt at ef
  split at ef
  · rename_i ow
    obtain ⟨b0, d0, ei0⟩ := isOw_eq ow
    obtain ⟨p0, vs0, ev, hp0, _⟩ := ok.ow i b0 d0 ei0
    cases e1 : f a.r with
    | none => rw [e1] at ef; cases ef
    | some q =>
      obtain ⟨x, r1⟩ := q
      rw [e1, Option.bind_some] at ef
      cases x with
      | int m =>
        have ef : ((owOf r1 i).bind fun z => if isSm m = true then (ixN z.2.length m).bind fun j => (z.2[j]?).map fun y => (y, r1.set i (some (Sl.ow z.1 (z.2.eraseIdx j)))) else none) = some (d, r') := ef
        cases ez : owOf r1 i with
        | none => simp [ez] at ef
        | some z =>
          obtain ⟨b, zs⟩ := z
          simp only [ez, Option.bind_some] at ef
          split at ef
          · rename_i hz
            cases ej : ixN zs.length m with
            | none => simp [ej] at ef
            | some j =>
              simp only [ej, Option.bind_some] at ef
              cases ey : zs[j]? with
              | none => simp [ey] at ef
              | some y =>
                simp only [ey, Option.map_some, Option.some.injEq, Prod.mk.injEq] at ef
                obtain ⟨rfl, rfl⟩ := ef
                have hz := isSm_b hz
                refine ⟨.ref p0, ev, .inl ⟨rfl, vs0, SqL.of hp0⟩, ha.so B a _ r1 _ ok e1 fun v g1 h1 o1 n1 x1 => ?_⟩
                cases x1
                obtain ⟨p, us, s, hp, gp, _, xp⟩ := o1.ow i b zs (owOf_eq ez)
                have s2 : a.s[i]? = some (some (.ref p)) := s
                rw [ev] at s2
                cases s2
                obtain ⟨w, ew, xw⟩ := dpa_get xp ey
                refine ⟨p0, us, m, j, w, rfl, rfl, hp, by omega, by omega, by rw [dpa_len xp]; exact (ixN_seq ej).1, ew, ?_⟩
                exact k _ _ _ (o1.write (owOf_eq ez) s hp (dpa_erase j xp)) (n1.trans (Nxt.write o1 (owOf_eq ez) s)) xw
          · cases ef
      | _ => cases ef
  · cases ef⟩
theorem qh_pop (i : Nat) {apos : Pos} {o : Expr} (ho : PE X o (tVar i)) (hbase : attributeBase o "pop" X.env (eval o X.env) = eval o X.env := by rfl) (hline : (apos.endLine == pos.line) = true := by rfl) (hk : X.K = K := by rfl) :
    QH X K T (.Call (.Attribute o "pop" apos) [] [] pos) (tBM0 K "list" rPop (tVar i)) (fPop i) := ⟨hk, hk ▸ pe_bm0 PySem.F.plainAttrs_list PySem.F.slot_list_pop PySem.F.type_list_pop mt_pop ho hbase hline, fun B a d r' Q o ef k => by
  unfold fPop at ef
  cases ez : owOf a.r i with
  | none => simp [ez] at ef
  | some z =>
    obtain ⟨b, zs⟩ := z
    simp only [ez, Option.bind_some] at ef
    cases ey : zs[zs.length - 1]? with
    | none => simp [ey] at ef
    | some y =>
      simp only [ey, Option.map_some, Option.some.injEq, Prod.mk.injEq] at ef
      obtain ⟨rfl, rfl⟩ := ef
      obtain ⟨p, us, s, hp, gp, _, xp⟩ := o.ow i b zs (owOf_eq ez)
      obtain ⟨w, ew, xw⟩ := dpa_get xp ey
      refine ⟨.ref p, s, .inl ⟨rfl, us, SqL.of hp⟩, p, us, w, rfl, rfl, hp, by rw [dpa_len xp]; exact ew, ?_⟩
      exact k _ _ _ (o.write (owOf_eq ez) s hp (dpa_dropLast xp)) (Nxt.write o (owOf_eq ez) s) xw⟩
theorem qh_clear (i : Nat) {apos : Pos} {o : Expr} (ho : PE X o (tVar i)) (hbase : attributeBase o "clear" X.env (eval o X.env) = eval o X.env := by rfl) (hline : (apos.endLine == pos.line) = true := by rfl) (hk : X.K = K := by rfl) :
    QH X K T (.Call (.Attribute o "clear" apos) [] [] pos) (tBM0 K "list" rClear (tVar i)) (fClear i) := ⟨hk, hk ▸ pe_bm0 PySem.F.plainAttrs_list PySem.F.slot_list_clear PySem.F.type_list_clear mt_clear ho hbase hline, fun B a d r' Q o ef k => by
  unfold fClear at ef
  cases ez : owOf a.r i with
  | none => simp [ez] at ef
  | some z =>
    obtain ⟨b, zs⟩ := z
    simp only [ez, Option.map_some, Option.some.injEq, Prod.mk.injEq] at ef
    obtain ⟨rfl, rfl⟩ := ef
    obtain ⟨p, us, s, hp, gp, _, xp⟩ := o.ow i b zs (owOf_eq ez)
    exact ⟨.ref p, s, .inl ⟨rfl, us, SqL.of hp⟩, p, us, rfl, rfl, hp, k _ _ _ (o.write (owOf_eq ez) s hp .nil) (Nxt.write o (owOf_eq ez) s) .non⟩⟩
end
end Pv

set_option Elab.async false
set_option linter.all false
set_option maxRecDepth 100000
set_option maxHeartbeats 2000000
namespace Pv
open PySem PySem.Spec PyProof.Rows L2 Lb

/-! ### x[i] = v, of a list of one's own -/
def sSub (i : Nat) (f : FH) : FG := fun d r => if isOw r i = true then (f r).bind fun p => match p.1 with
  | .int k => (owOf p.2 i).bind fun z => (ixN z.2.length k).map fun j => p.2.set i (some (Sl.ow z.1 (z.2.set j d)))
  | _ => none else none
section
variable {X : Cx} {K : PySem.W.Frag} {T : Addr → Prop} {ea eb ec e o : Expr} {ta tb tc te : TE} {p pos : Pos}
theorem qg_sub (i : Nat) {f : FH} (ho : PE X o (tVar i)) (ha : QH X K T e te f)
    (hh : ∀ v, assign (.Subscript o e pos) X.env v = (do
      let ov ← holding [v] (eval o X.env)
      let iv ← holding [v, ov] (eval e X.env)
      standAt pos
      holding [v, ov, iv] (setItem ov iv v)
      release [v, ov, iv] []) := by intro _; rfl) : QG X K T false (.Subscript o e pos) (gSub (tVar i) te rSetL) (sSub i f) [] := ⟨ha.k, pg_sub ho ha.pe set_list hh, fun B a x d r' Q ok y ef k => by
  unfold sSub at ef
  split at ef
  · rename_i ow
    obtain ⟨b0, d0, ei0⟩ := isOw_eq ow
    obtain ⟨p0, vs0, ev, hp0, _⟩ := ok.ow i b0 d0 ei0
    cases e1 : f a.r with
    | none => rw [e1] at ef; cases ef
    | some q =>
      obtain ⟨z, r1⟩ := q
      rw [e1, Option.bind_some] at ef
      cases z with
      | int m =>
        have ef : ((owOf r1 i).bind fun z => (ixN z.2.length m).map fun j => r1.set i (some (Sl.ow z.1 (z.2.set j d)))) = some r' := ef
        cases ez : owOf r1 i with
        | none => simp [ez] at ef
        | some z =>
          obtain ⟨b, zs⟩ := z
          simp only [ez, Option.bind_some] at ef
          cases ej : ixN zs.length m with
          | none => simp [ej] at ef
          | some j =>
            simp only [ej, Option.map_some, Option.some.injEq] at ef
            subst ef
            rcases y with ⟨_, xd⟩ | ⟨z, _⟩
            · refine ⟨.ref p0, ev, ha.so B a _ r1 _ ok e1 fun v g1 h1 o1 n1 x1 => ?_⟩
              cases x1
              obtain ⟨p, us, s, hp, gp, _, xp⟩ := o1.ow i b zs (owOf_eq ez)
              have s2 : a.s[i]? = some (some (.ref p)) := s
              rw [ev] at s2
              cases s2
              refine ⟨p0, us, m, j, rfl, rfl, hp, by rw [dpa_len xp]; exact ej, ?_⟩
              exact k _ _ _ (o1.write (owOf_eq ez) s hp (dpa_set (dp_sub n1.le xd) j xp)) (n1.trans (Nxt.write o1 (owOf_eq ez) s)) rfl fun _ _ => rfl
            · cases z
      | _ => cases ef
  · cases ef⟩
/-! ### x op= e -/
def gAug (i : Nat) (fo : D → D → Option D) (f : FH) : FS := fun r => match r[i]? with
  | some (some (Sl.sh x)) => (f r).bind fun p => (fo x p.1).bind fun z => (sName i z p.2).map .nx
  | _ => none
def IpS (K : PySem.W.Frag) (T : Addr → Prop) (ti : TIp) (fo : D → D → Option D) : Prop := OpS K T ti fo
theorem qs_aug {i : Nat} {x : Str} {op : Operator} {ti : TIp} {fo : D → D → Option D} {f : FH} {pos' : Pos} (hN : X.N.Nodup) (hi : X.N[i]? = some x) (hx : Loc X.env.scope x) (he : QH X K T e te f) (ho : PIp X op ti) (hs : OpS K T ti fo) (hf : X.fn x = true ∨ X.env.scope.names.lookup x = some .local := by first | exact .inl rfl | exact .inr rfl | assumption) :
    QS X K T (.AugAssign (.Name x pos') op e pos) (tAug i te ti) (gAug i fo f) := ⟨he.k, ps_aug hN hi hx he.pe ho hf, fun B a D fl o ef k => by
  unfold gAug at ef
  split at ef
  · rename_i d ed
    obtain ⟨v, s, xd⟩ := o.sh i d ed
    cases e1 : f a.r with
    | none => rw [e1] at ef; cases ef
    | some q =>
      obtain ⟨y, r1⟩ := q
      rw [e1, Option.bind_some] at ef
      cases e2 : fo d y with
      | none => rw [e2] at ef; cases ef
      | some z =>
        rw [e2, Option.bind_some] at ef
        cases e3 : sName i z r1 with
        | none => rw [e3] at ef; cases ef
        | some r2 =>
          rw [e3] at ef
          cases ef
          refine ⟨v, s, he.so B a y r1 _ o e1 fun u g1 h1 o1 n1 x1 => ?_⟩
          refine hs B ⟨g1, h1, a.s, r1⟩ v u d y z _ o1 (.inl (dp_sub n1.le xd)) (.inl x1) e2 fun w g2 h2 o2 n2 x2 => ?_
          refine sg_name i B ⟨g2, h2, a.s, r1⟩ w z r2 (fun s' h' => D.nx s' h') o2 (.inl ⟨rfl, x2⟩) e3 fun g3 h3 s3 o3 n3 _ _ => ?_
          exact k ⟨g3, h3, s3, r2⟩ o3 (n1.trans (n2.trans n3)) rfl
  · cases ef⟩
theorem os_ipAdd : OpS K T (ipI fun i j => i + j) dAdd := fun B a v u d e z Q o rv ru ef k => by
  unfold dAdd dII at ef
  split at ef
  · cases ef
    cases rv.int
    cases ru.int
    exact ⟨_, _, rfl, rfl, k _ a.g a.h o .refl (.int _)⟩
  · cases ef
theorem os_ipSub : OpS K T (ipI fun i j => i - j) dSub := fun B a v u d e z Q o rv ru ef k => by
  unfold dSub dII at ef
  split at ef
  · cases ef
    cases rv.int
    cases ru.int
    exact ⟨_, _, rfl, rfl, k _ a.g a.h o .refl (.int _)⟩
  · cases ef
theorem qs_augAdd {i : Nat} {x : Str} {f : FH} {pos' : Pos} (hN : X.N.Nodup) (hi : X.N[i]? = some x) (hx : Loc X.env.scope x) (he : QH X K T e te f) (hf : X.fn x = true ∨ X.env.scope.names.lookup x = some .local := by first | exact .inl rfl | exact .inr rfl | assumption) :
    QS X K T (.AugAssign (.Name x pos') .Add e pos) (tAug i te (ipI fun i j => i + j)) (gAug i dAdd f) := qs_aug hN hi hx he ip_add os_ipAdd hf
theorem qs_augSub {i : Nat} {x : Str} {f : FH} {pos' : Pos} (hN : X.N.Nodup) (hi : X.N[i]? = some x) (hx : Loc X.env.scope x) (he : QH X K T e te f) (hf : X.fn x = true ∨ X.env.scope.names.lookup x = some .local := by first | exact .inl rfl | exact .inr rfl | assumption) :
    QS X K T (.AugAssign (.Name x pos') .Sub e pos) (tAug i te (ipI fun i j => i - j)) (gAug i dSub f) := qs_aug hN hi hx he ip_sub os_ipSub hf
/-! ### x[i] op= e, x a list of whole numbers of one's own -/
def rGetL : V → V → Hp → VK → Prop := fun x y H Q => ∃ p xs i v, x = .ref p ∧ y = .int i ∧ H p = some (.lst xs) ∧ 0 ≤ i ∧ xs[i.toNat]? = some v ∧ Q v H
theorem get_list : PGet X rGetL := by
  intro pins s σ H x y v u Q I rx ry h
  obtain ⟨p, xs, i, z, rfl, rfl, hq, h0, he, q⟩ := h
  cases rx
  obtain ⟨t, rfl⟩ := ry
  obtain ⟨its, r, pl, hz⟩ := I.list (SqL.of hq)
  obtain ⟨w, ew, rw'⟩ := r.get he
  have hl := r.length
  have hn := line63
  have hi := (List.getElem?_eq_some_iff.mp he).1
  have fin : EP X pins σ Q w s := ⟨z, H, I, rw', q⟩
  exact wpAny_getItem_list pl.isList h0 (by omega) (by simpa using ew) fin
def gAugS (i : Nat) (fi : FP) (fo : D → D → Option D) (fe : FP) : FS := fun r => (owOf r i).bind fun z => (fi r).bind fun x => match x with
  | .int k => if 0 ≤ k then (z.2[k.toNat]?).bind fun y => (fe r).bind fun w => (fo y w).bind fun v => (ixN z.2.length k).map fun j => .nx (r.set i (some (Sl.ow z.1 (z.2.set j v)))) else none
  | _ => none
/-- an operator in place, whose answer is no new object -/
def IpI (K : PySem.W.Frag) (ti : TIp) (fo : D → D → Option D) : Prop := ∀ (x y : V) (d e z : D) (g H : Hp) (Q : VK), Dp K g x d → Dp K g y e → fo d e = some z → (∀ v, (∀ G, Dp K G v z) → Q v H) → ti x y H Q
theorem ipi_add : IpI K (ipI fun i j => i + j) dAdd := fun x y d e z g H Q hx hy ef k => by
  unfold dAdd dII at ef
  split at ef
  · cases ef
    cases hx
    cases hy
    exact ⟨_, _, rfl, rfl, k _ fun _ => .int _⟩
  · cases ef
theorem ipi_sub : IpI K (ipI fun i j => i - j) dSub := fun x y d e z g H Q hx hy ef k => by
  unfold dSub dII at ef
  split at ef
  · cases ef
    cases hx
    cases hy
    exact ⟨_, _, rfl, rfl, k _ fun _ => .int _⟩
  · cases ef
theorem qs_augS (i : Nat) {oi : Expr} {tti : TE} {op : Operator} {ti : TIp} {fo : D → D → Option D} {fi fe : FP} {tpos : Pos} (ho : PE X o (tVar i)) (hi : QB X K T oi tti fi) (he : QB X K T e te fe) (hp : PIp X op ti) (hq : IpI K ti fo)
    (ha : ∀ ov iv new, augStore oi ov iv new = (do holding [new, ov, iv] (setItem ov iv new); release [new, ov, iv] []; pure .next) := by intros; rfl) : QS X K T (.AugAssign (.Subscript o oi tpos) op e pos) (tAugS (tVar i) tti te rGetL ti rSetL) (gAugS i fi fo fe) := ⟨hi.k, ps_augS ho hi.pe get_list he.pe hp set_list ha, fun B a D fl ok ef k => by
  unfold gAugS at ef
  cases ez : owOf a.r i with
  | none => simp [ez] at ef
  | some z =>
    obtain ⟨b, zs⟩ := z
    simp only [ez, Option.bind_some] at ef
    cases e1 : fi a.r with
    | none => rw [e1] at ef; cases ef
    | some x =>
      rw [e1, Option.bind_some] at ef
      cases x with
      | int m =>
        have ef : (if 0 ≤ m then (zs[m.toNat]?).bind fun y => (fe a.r).bind fun w => (fo y w).bind fun v => (ixN zs.length m).map fun j => Fl.nx (a.r.set i (some (Sl.ow b (zs.set j v)))) else none) = some fl := ef
        split at ef
        · rename_i h0
          cases ey : zs[m.toNat]? with
          | none => rw [ey] at ef; cases ef
          | some y =>
            rw [ey, Option.bind_some] at ef
            cases ew : fe a.r with
            | none => rw [ew] at ef; cases ef
            | some w =>
              rw [ew, Option.bind_some] at ef
              cases ev : fo y w with
              | none => rw [ev] at ef; cases ef
              | some v =>
                rw [ev, Option.bind_some] at ef
                cases ej : ixN zs.length m with
                | none => rw [ej] at ef; cases ef
                | some j =>
                  rw [ej] at ef
                  cases ef
                  obtain ⟨p, us, s, hp0, gp, _, xp⟩ := ok.ow i b zs (owOf_eq ez)
                  refine ⟨.ref p, s, hi.so B a _ _ ok e1 fun u g1 h1 o1 n1 r1 => ?_⟩
                  cases r1.int
                  obtain ⟨p1, us1, s1, hp1, gp1, _, xp1⟩ := o1.ow i b zs (owOf_eq ez)
                  have s2 : a.s[i]? = some (some (.ref p1)) := s1
                  rw [s] at s2
                  cases s2
                  obtain ⟨yv, eyv, xyv⟩ := dpa_get xp1 ey
                  refine ⟨p, us1, m, yv, rfl, rfl, hp1, h0, eyv, he.so B ⟨g1, h1, a.s, a.r⟩ _ _ o1 ew fun wv g2 h2 o2 n2 r2 => ?_⟩
                  obtain ⟨p2, us2, s2, hp2, gp2, _, xp2⟩ := o2.ow i b zs (owOf_eq ez)
                  have s3 : a.s[i]? = some (some (.ref p2)) := s2
                  rw [s] at s3
                  cases s3
                  refine hq yv wv y w v h2 h2 _ (dp_sub (n2.le.trans o2.le) xyv) (r2.dp o2) ev fun nv xnv => ?_
                  refine ⟨p, us2, m, j, rfl, rfl, hp2, by rw [dpa_len xp2]; exact ej, ?_⟩
                  exact k ⟨g2, upd h2 p (.lst (us2.set j nv)), a.s, a.r.set i (some (Sl.ow b (zs.set j v)))⟩ (o2.write (owOf_eq ez) s2 hp2 (dpa_set (xnv _) j xp2)) (n1.trans (n2.trans (Nxt.write o2 (owOf_eq ez) s2))) rfl
        · cases ef
      | _ => cases ef⟩

/-! ### a, b = e1, e2 -/
abbrev FV := Ev → Option (Sl × Ev)
def RetV (K : PySem.W.Frag) (a b : Sx) (x : Sl) (v : V) : Prop := match x with
  | .sh d => Dp K b.g v d
  | .ow c ds => c = true ∧ ∃ p vs, v = .ref p ∧ a.h p = none ∧ b.h p = some (.lst vs) ∧ b.g p = none ∧ ¬ Tied b p ∧ DpAll K b.g vs ds
def SV (K : PySem.W.Frag) (T : Addr → Prop) (t : TE) (f : FV) : Prop := ∀ (B : Addr → Prop) (a : Sx) (x : Sl) (r' : Ev) (Q : VK), Ok K T B a → f a.r = some (x, r') → (∀ v g' h', Ok K T B ⟨g', h', a.s, r'⟩ → Nxt T a ⟨g', h', a.s, r'⟩ → RetV K a ⟨g', h', a.s, r'⟩ x v → Q v h') → t a.s a.h Q
structure QV (X : Cx) (K : PySem.W.Frag) (T : Addr → Prop) (e : Expr) (t : TE) (f : FV) : Prop where
  k : X.K = K
  pe : PE X e t
  so : SV K T t f
def vH (f : FH) : FV := fun r => (f r).map fun p => (.sh p.1, p.2)
def vO (f : FO) : FV := fun r => (f r).map fun p => (.ow true p.1, p.2)
theorem QH.v {f : FH} (h : QH X K T e te f) : QV X K T e te (vH f) := ⟨h.k, h.pe, fun B a x r' Q o ef k => by
  unfold vH at ef
  cases e1 : f a.r with
  | none => simp [e1] at ef
  | some q =>
    simp only [e1, Option.map_some, Option.some.injEq, Prod.mk.injEq] at ef
    obtain ⟨rfl, rfl⟩ := ef
    exact h.so B a q.1 q.2 _ o e1 fun v g1 h1 o1 n1 x1 => k v g1 h1 o1 n1 x1⟩
theorem QO.v {f : FO} (h : QO X K T e te f) : QV X K T e te (vO f) := ⟨h.k, h.pe, fun B a x r' Q o ef k => by
  unfold vO at ef
  cases e1 : f a.r with
  | none => simp [e1] at ef
  | some q =>
    simp only [e1, Option.map_some, Option.some.injEq, Prod.mk.injEq] at ef
    obtain ⟨rfl, rfl⟩ := ef
    exact h.so B a q.1 q.2 _ o e1 fun p vs g1 h1 o1 n1 hp e2 gp w x1 => k _ g1 h1 o1 n1 ⟨rfl, p, vs, rfl, hp, e2, gp, w, x1⟩⟩
def sSl (i : Nat) (x : Sl) (r : Ev) : Option Ev := if freeB r i = true then some (r.set i (some x)) else none
/-- one of several values is stored; a: ahead of all, b: where it was made, c: now -/
theorem RetV.store {B : Addr → Prop} {a c : Sx} {x : Sl} {v : V} {i : Nat} {r' : Ev} (o : Ok K T B c) (n : Nxt T a c) (h : RetV K a c x v) (dom : ∀ p, B p → a.h p ≠ none) (e : sSl i x c.r = some r') : Ok K T B ⟨c.g, c.h, c.s.set i (some v), r'⟩ ∧ Nxt T a ⟨c.g, c.h, c.s.set i (some v), r'⟩ := by
  unfold sSl at e
  split at e
  · rename_i fr
    cases e
    have f := freeB_ok fr
    cases x with
    | sh d => exact ⟨o.setSh f h, n.trans (Nxt.setSh f)⟩
    | ow b ds =>
      obtain ⟨rfl, p, vs, rfl, hp, e2, gp, w, x1⟩ := h
      exact ⟨o.setOw f e2 gp w (fun z => dom p z hp) x1, n.setOw f o.len hp⟩
  · cases e
/-- a value that is kept while others are made -/
theorem RetV.nxt {B : Addr → Prop} {a b c : Sx} {x : Sl} {v : V} (ob : Ok K T B b) (n : Nxt T b c) (h : RetV K a b x v) : RetV K a c x v := by
  cases x with
  | sh d => exact dp_sub n.le h
  | ow b ds =>
    obtain ⟨rfl, p, vs, rfl, hp, e2, gp, w, x1⟩ := h
    obtain ⟨e3, g3, w3⟩ := n.fr p _ gp (ob.lstT e2) w e2
    exact ⟨rfl, p, vs, rfl, hp, e3, g3, w3, dpa_sub n.le x1⟩
theorem RetV.weak {a b c : Sx} {x : Sl} {v : V} (dm : ∀ p, b.h p = none → a.h p = none) (h : RetV K b c x v) : RetV K a c x v := by
  cases x with
  | sh d => exact h
  | ow b ds =>
    obtain ⟨rfl, p, vs, rfl, hp, r⟩ := h
    exact ⟨rfl, p, vs, rfl, dm p hp, r⟩
/-- two values of one's own are two -/
def Apart (x y : Sl) (v w : V) : Prop := match x, y with
  | .ow _ _, .ow _ _ => v ≠ w
  | _, _ => True
theorem RetV.apart {a b c : Sx} {x y : Sl} {v w : V} (h1 : RetV K a b x v) (h2 : RetV K b c y w) : Apart x y v w := by
  cases x with
  | sh d => trivial
  | ow b1 ds =>
    cases y with
    | sh d => trivial
    | ow b2 es =>
      obtain ⟨_, p, vs, rfl, _, e2, _⟩ := h1
      obtain ⟨_, q, ws, rfl, hq, _⟩ := h2
      intro z
      cases z
      rw [hq] at e2
      cases e2
/-- storing one leaves the other as it is -/
theorem RetV.set {a c : Sx} {x y : Sl} {v w : V} {i : Nat} {r' : Ev} (h : RetV K a c y w) (ap : Apart x y v w) (e : sSl i x c.r = some r') (lc : c.r.length = c.s.length) : RetV K a ⟨c.g, c.h, c.s.set i (some v), r'⟩ y w := by
  unfold sSl at e
  split at e
  · rename_i fr
    cases e
    have f := freeB_ok fr
    cases y with
    | sh d => exact h
    | ow b ds =>
      obtain ⟨rfl, p, vs, rfl, hp, e2, gp, wd, x1⟩ := h
      refine ⟨rfl, p, vs, rfl, hp, e2, gp, fun ⟨j, hj⟩ => ?_, x1⟩
      by_cases z : i = j
      · subst z
        obtain ⟨⟨b2, d2, e5⟩, s5⟩ := hj
        have e5 : (c.r.set i (some x))[i]? = _ := e5
        have s5 : (c.s.set i (some v))[i]? = _ := s5
        rw [set_lt f.1] at e5
        rw [set_lt (by rw [← lc]; exact f.1)] at s5
        have e6 : x = .ow b2 d2 := Option.some.inj (Option.some.inj e5)
        have e7 : v = .ref p := Option.some.inj (Option.some.inj s5)
        rw [e6, e7] at ap
        exact ap rfl
      · exact wd ⟨j, own_set z hj⟩
  · cases e
def gPar (i j : Nat) (f g : FV) : FS := fun r => (f r).bind fun p => (g p.2).bind fun q => (sSl i p.1 q.2).bind fun r1 => (sSl j q.1 r1).map .nx
theorem qs_par {i j : Nat} {x y : Str} {px py pt : Pos} {kt k2 pt2} {f g : FV} (hc : X.calm = true) (hN : X.N.Nodup) (hi : X.N[i]? = some x) (hj : X.N[j]? = some y) (hij : i ≠ j)
    (hx : X.env.scope.names.lookup x = some .local) (hy : X.env.scope.names.lookup y = some .local) (ha : QV X K T ea ta f) (hb : QV X K T eb tb g)
    (hw : swappedStores [.Tuple [.Name x px, .Name y py] kt pt] (.Tuple [ea, eb] k2 pt2) X.env = pure (some [x, y]))
    (hs : swapsWithSole [.Tuple [.Name x px, .Name y py] kt pt] (.Tuple [ea, eb] k2 pt2) pos.line X.env = pure false := by rfl)
    (na : starEach [ea, eb] X.env = (false, eval ea X.env) :: starEach [eb] X.env := by rfl) (nb : starEach [eb] X.env = (false, eval eb X.env) :: starEach [] X.env := by rfl) :
    QS X K T (.Assign [.Tuple [.Name x px, .Name y py] kt pt] (.Tuple [ea, eb] k2 pt2) pos) (tPar i j (tCons ta (tCons tb tNil))) (gPar i j f g) := ⟨ha.k, ps_par hc hN hi hj hij hx hy (pa_cons ha.pe (pa_cons hb.pe pa_nil nb) na) hw hs, fun B a D fl o ef k => by
  unfold gPar at ef
  cases e1 : f a.r with
  | none => rw [e1] at ef; cases ef
  | some p =>
    obtain ⟨v1, r1⟩ := p
    rw [e1, Option.bind_some] at ef
    cases e2 : g r1 with
    | none => rw [e2] at ef; cases ef
    | some q =>
      obtain ⟨v2, r2⟩ := q
      rw [e2, Option.bind_some] at ef
      cases e3 : sSl i v1 r2 with
      | none => rw [e3] at ef; cases ef
      | some r3 =>
        rw [e3, Option.bind_some] at ef
        cases e4 : sSl j v2 r3 with
        | none => rw [e4] at ef; cases ef
        | some r4 =>
          rw [e4] at ef
          cases ef
          refine ha.so B a v1 r1 _ o e1 fun v g1 h1 o1 n1 x1 => ?_
          refine hb.so B ⟨g1, h1, a.s, r1⟩ v2 r2 _ o1 e2 fun w g2 h2 o2 n2 x2 => ?_
          have x1' := x1.nxt o1 n2
          have ap := x1.apart x2
          have x2' : RetV K a ⟨g2, h2, a.s, r2⟩ v2 w := x2.weak n1.dm
          obtain ⟨o3, n3⟩ := x1'.store o2 (n1.trans n2) o.dom e3
          have x2'' := x2'.set ap e3 o2.len
          obtain ⟨o4, n4⟩ := x2''.store o3 n3 o.dom e4
          exact ⟨v, w, rfl, k ⟨g2, h2, (a.s.set i (some v)).set j (some w), r4⟩ o4 n4 rfl⟩⟩
def gPar3 (i j l : Nat) (f g h : FV) : FS := fun r => (f r).bind fun p => (g p.2).bind fun q => (h q.2).bind fun u => (sSl i p.1 u.2).bind fun r1 => (sSl j q.1 r1).bind fun r2 => (sSl l u.1 r2).map .nx
theorem Apart.trans1 {a b c : Sx} {x y : Sl} {v w : V} {B : Addr → Prop} (ob : Ok K T B b) (n : Nxt T b c) (h1 : RetV K a b x v) {d : Sx} (h2 : RetV K c d y w) : Apart x y v w := (h1.nxt ob n).apart h2
theorem qs_par3 {i j l : Nat} {x y z : Str} {px py pz pt : Pos} {kt k2 pt2} {f g h : FV} (hc : X.calm = true) (hN : X.N.Nodup) (hi : X.N[i]? = some x) (hj : X.N[j]? = some y) (hl : X.N[l]? = some z) (hij : i ≠ j) (hil : i ≠ l) (hjl : j ≠ l)
    (hx : X.env.scope.names.lookup x = some .local) (hy : X.env.scope.names.lookup y = some .local) (hz : X.env.scope.names.lookup z = some .local) (ha : QV X K T ea ta f) (hb : QV X K T eb tb g) (hd : QV X K T ec tc h)
    (hw : swappedStores [.Tuple [.Name x px, .Name y py, .Name z pz] kt pt] (.Tuple [ea, eb, ec] k2 pt2) X.env = pure (some [x, y, z]))
    (hs : swapsWithSole [.Tuple [.Name x px, .Name y py, .Name z pz] kt pt] (.Tuple [ea, eb, ec] k2 pt2) pos.line X.env = pure false := by rfl)
    (na : starEach [ea, eb, ec] X.env = (false, eval ea X.env) :: starEach [eb, ec] X.env := by rfl) (nb : starEach [eb, ec] X.env = (false, eval eb X.env) :: starEach [ec] X.env := by rfl) (nc : starEach [ec] X.env = (false, eval ec X.env) :: starEach [] X.env := by rfl) :
    QS X K T (.Assign [.Tuple [.Name x px, .Name y py, .Name z pz] kt pt] (.Tuple [ea, eb, ec] k2 pt2) pos) (tPar3 i j l (tCons ta (tCons tb (tCons tc tNil)))) (gPar3 i j l f g h) := ⟨ha.k, ps_par3 hc hN hi hj hl hij hil hjl hx hy hz (pa_cons ha.pe (pa_cons hb.pe (pa_cons hd.pe pa_nil nc) nb) na) hw hs, fun B a D fl o ef k => by
  unfold gPar3 at ef
  cases e1 : f a.r with
  | none => rw [e1] at ef; cases ef
  | some p =>
    obtain ⟨v1, r1⟩ := p
    rw [e1, Option.bind_some] at ef
    cases e2 : g r1 with
    | none => rw [e2] at ef; cases ef
    | some q =>
      obtain ⟨v2, r2⟩ := q
      rw [e2, Option.bind_some] at ef
      cases e5 : h r2 with
      | none => rw [e5] at ef; cases ef
      | some u =>
        obtain ⟨v3, r5⟩ := u
        rw [e5, Option.bind_some] at ef
        cases e3 : sSl i v1 r5 with
        | none => rw [e3] at ef; cases ef
        | some r3 =>
          rw [e3, Option.bind_some] at ef
          cases e4 : sSl j v2 r3 with
          | none => rw [e4] at ef; cases ef
          | some r4 =>
            rw [e4, Option.bind_some] at ef
            cases e6 : sSl l v3 r4 with
            | none => rw [e6] at ef; cases ef
            | some r6 =>
              rw [e6] at ef
              cases ef
              refine ha.so B a v1 r1 _ o e1 fun v g1 h1 o1 n1 x1 => ?_
              refine hb.so B ⟨g1, h1, a.s, r1⟩ v2 r2 _ o1 e2 fun w g2 h2 o2 n2 x2 => ?_
              refine hd.so B ⟨g2, h2, a.s, r2⟩ v3 r5 _ o2 e5 fun u g3 h3 o3 n3 x3 => ?_
              have y1 := (x1.nxt o1 n2).nxt o2 n3
              have y2 : RetV K a ⟨g3, h3, a.s, r5⟩ v2 w := (x2.nxt o2 n3).weak n1.dm
              have y3 : RetV K a ⟨g3, h3, a.s, r5⟩ v3 u := x3.weak fun p e => n1.dm p (n2.dm p e)
              have a12 := x1.apart x2
              have a13 := (x1.nxt o1 n2).apart x3
              have a23 := x2.apart x3
              obtain ⟨o4, n4⟩ := y1.store o3 (n1.trans (n2.trans n3)) o.dom e3
              have z2 := y2.set a12 e3 o3.len
              have z3 := y3.set a13 e3 o3.len
              obtain ⟨o6, n6⟩ := z2.store o4 n4 o.dom e4
              have w3 := z3.set a23 e4 o4.len
              obtain ⟨o7, n7⟩ := w3.store o6 n6 o.dom e6
              exact ⟨v, w, u, rfl, k ⟨g3, h3, ((a.s.set i (some v)).set j (some w)).set l (some u), r6⟩ o7 n7 rfl⟩⟩
end
end Pv

set_option Elab.async false
set_option linter.all false
set_option maxRecDepth 100000
set_option maxHeartbeats 2000000
namespace Pv
open PySem PySem.Spec PyProof.Rows L2 Lb

/-! ### comprehensions of two clauses; comprehensions that are stored -/
def lc2F (g : FG) (ft : FT) (fi1 : FO) (g1 : FG) (ft1 : FT) (fe : FH) (vs vs1 : List Nat) : List D → Ev → Option (List D × Ev)
  | [], r => (wipeS vs r).map fun r1 => ([], r1)
  | x :: xs, r => (wipeS vs r).bind fun r1 => (g x r1).bind fun r2 => (ft r2).bind fun p => if p.1 = true then (fi1 p.2).bind fun q => (lcF g1 ft1 fe vs1 q.1 q.2).bind fun z => (lc2F g ft fi1 g1 ft1 fe vs vs1 xs z.2).map fun u => (z.1 ++ u.1, u.2) else lc2F g ft fi1 g1 ft1 fe vs vs1 xs p.2
def fLc2 (fi : FO) (g : FG) (ft : FT) (fi1 : FO) (g1 : FG) (ft1 : FT) (fe : FH) (vs vs1 : List Nat) : FO := fun r => (fi r).bind fun p => (lc2F g ft fi1 g1 ft1 fe vs vs1 p.1 p.2).bind fun z => if z.1.length ≤ BIG then some (z.1, z.2) else none
section
variable {X : Cx} {K : PySem.W.Frag} {T : Addr → Prop}
theorem lc_run {B : Addr → Prop} {raw : Bool} {J : It} {tt : TG} {tif : TT} {te : TE} {g : FG} {ft : FT} {fe : FH} {is vs : List Nat} {xs ys ds0 : List PyData} {a b0 : Sx} {g1 : Hp} {r' : Ev} {D : Addr} {ws0 : List V} {Qd : Hp → Prop} (hg : SG K T raw tt g is) (ht : STt K T tif ft) (he : SH K T te fe) (hsub : ∀ i ∈ is, i ∈ vs)
    (it : ItOk K T raw J g1 xs) (aD : a.h D = none) (ob0 : Ok K T B b0) (nb0 : Nxt T a b0) (sb0 : Sub g1 b0.g) (eD0 : b0.h D = some (.lst ws0)) (gD0 : b0.g D = none) (wD0 : ¬ Tied b0 D) (xD0 : DpAll K b0.g ws0 ds0) (hz : ds0.length + ys.length ≤ BIG) (ef : lcF g ft fe vs xs b0.r = some (ys, r'))
    (fin : ∀ g' h' ws, Ok K T B ⟨g', h', b0.s, r'⟩ → Nxt T a ⟨g', h', b0.s, r'⟩ → Sub b0.g g' → h' D = some (.lst ws) → g' D = none → ¬ Tied ⟨g', h', b0.s, r'⟩ D → DpAll K g' ws (ds0 ++ ys) → Qd h')
    (potk : ∀ (i : Nat) ds, a.r[i]? = some (some (Sl.ow false ds)) → b0.s[i]? = a.s[i]?) :
    ∃ W : Nat → Nat → Hp → Prop, (∃ m, W 0 m b0.h) ∧ ∀ i m H, W i m H →
      (J.stop i H ∧ Qd H) ∨ (J.go i H ∧ ∃ Nx : Hp → Prop, (∀ H', Nx H' → ∃ m', m' < m ∧ W (i + 1) m' H') ∧ ∀ x H', J.yld i H x H' → tt x (wipe b0.s vs) H' fun σ2 H2 => wipe σ2 vs = wipe b0.s vs ∧ tif σ2 H2 fun b H3 =>
        if b = true then te σ2 H3 fun y H4 => ∃ acc, H4 D = some (.lst acc) ∧ acc.length < sizeLine ∧ Nx (upd H4 D (.lst (acc ++ [y]))) else Nx H3) := by
  refine ⟨fun i m H => m = xs.length - i ∧ i ≤ xs.length ∧ ∃ (b : Sx) (ws : List V) (ds rest : List PyData), b.h = H ∧ wipe b.s vs = wipe b0.s vs ∧ b.s.length = b0.s.length ∧ (∀ j, j ∉ vs → b.s[j]? = b0.s[j]?) ∧ Ok K T B b ∧ Nxt T a b ∧ Sub b0.g b.g ∧ b.h D = some (.lst ws) ∧ b.g D = none ∧ ¬ Tied b D ∧ DpAll K b.g ws ds ∧ ds ++ rest = ds0 ++ ys ∧ lcF g ft fe vs (xs.drop i) b.r = some (rest, r'),
    ⟨xs.length, rfl, Nat.zero_le _, b0, ws0, ds0, ys, rfl, rfl, rfl, fun _ _ => rfl, ob0, nb0, .refl, eD0, gD0, wD0, xD0, rfl, ef⟩, ?_⟩
  rintro i m H ⟨rfl, hi', b, ws, ds, rest, rfl, hw, hl, hj, ob, nb, sb, eD, gD, wD, xD, eys, eb⟩
  by_cases hlt : i < xs.length
  · rw [drop_cons hlt] at eb
    unfold lcF at eb
    cases e2 : wipeS vs b.r with
    | none => rw [e2] at eb; cases eb
    | some r2 =>
      rw [e2, Option.bind_some] at eb
      obtain ⟨o2, n2⟩ := wipeS_ok vs b r2 ob e2
      rw [hw] at o2 n2
      have nb2 := nb.trans n2
      obtain ⟨_, j2⟩ := it B ⟨b.g, b.h, wipe b0.s vs, r2⟩ o2 (sb0.trans sb)
      obtain ⟨jg, jy⟩ := j2 i xs[i] (List.getElem?_eq_getElem hlt)
      obtain ⟨eD2, gD2, wD2⟩ := n2.fr D _ gD (ob.lstT eD) wD eD
      refine .inr ⟨jg, fun H' => ∃ (b : Sx) (ws : List V) (ds rest : List PyData), b.h = H' ∧ wipe b.s vs = wipe b0.s vs ∧ b.s.length = b0.s.length ∧ (∀ j, j ∉ vs → b.s[j]? = b0.s[j]?) ∧ Ok K T B b ∧ Nxt T a b ∧ Sub b0.g b.g ∧ b.h D = some (.lst ws) ∧ b.g D = none ∧ ¬ Tied b D ∧ DpAll K b.g ws ds ∧ ds ++ rest = ds0 ++ ys ∧ lcF g ft fe vs (xs.drop (i + 1)) b.r = some (rest, r'),
        fun H' q => ⟨xs.length - (i + 1), by omega, rfl, hlt, q⟩, fun x H' y => ?_⟩
      obtain ⟨g3, o3, n3, yl⟩ := jy x H' y
      obtain ⟨eD3, gD3, wD3⟩ := n3.fr D _ gD2 (o2.lstT eD2) wD2 eD2
      cases e3 : g xs[i] r2 with
      | none => rw [e3] at eb; cases eb
      | some r3 =>
        rw [e3, Option.bind_some] at eb
        refine hg B ⟨g3, H', wipe b0.s vs, r2⟩ x _ r3 _ o3 yl e3 fun g4 h4 s4 o4 n4 l4 j4 => ?_
        obtain ⟨eD4, gD4, wD4⟩ := n4.fr D _ gD3 (o3.lstT eD3) wD3 eD3
        have l4' : s4.length = b0.s.length := by rw [l4, wipe_length]
        have j4' : ∀ j, j ∉ vs → s4[j]? = b0.s[j]? := fun j hj => (j4 j fun z => hj (hsub j z)).trans (wipe_get hj)
        have hw4 : wipe s4 vs = wipe b0.s vs := wipe_eq l4' j4'
        refine ⟨hw4, ?_⟩
        cases e4 : ft r3 with
        | none => rw [e4] at eb; cases eb
        | some p =>
          obtain ⟨c, r5⟩ := p
          rw [e4, Option.bind_some] at eb
          refine ht B ⟨g4, h4, s4, r3⟩ c r5 _ o4 e4 fun g5 h5 o5 n5 => ?_
          obtain ⟨eD5, gD5, wD5⟩ := n5.fr D _ gD4 (o4.lstT eD4) wD4 eD4
          have n25 := nb2.trans (n3.trans (n4.trans n5))
          have s35 : Sub b.g g5 := n3.le.trans (n4.le.trans n5.le)
          have s25 : Sub b0.g g5 := sb.trans s35
          have x25 : DpAll K g5 ws ds := dpa_sub s35 xD
          cases c with
          | true =>
            rw [if_pos rfl] at eb ⊢
            cases e6 : fe r5 with
            | none => rw [e6] at eb; cases eb
            | some q =>
              obtain ⟨yd, r6⟩ := q
              rw [e6, Option.bind_some] at eb
              cases e7 : lcF g ft fe vs (xs.drop (i + 1)) r6 with
              | none => rw [e7] at eb; cases eb
              | some z =>
                obtain ⟨zs, r7⟩ := z
                rw [e7] at eb
                cases eb
                refine he B ⟨g5, h5, s4, r5⟩ yd r6 _ o5 e6 fun v g6 h6 o6 n6 x6 => ?_
                obtain ⟨eD6, gD6, wD6⟩ := n6.fr D _ gD5 (o5.lstT eD5) wD5 eD5
                have lw : ws.length = ds.length := dpa_len x25
                have lt : ds.length < BIG := by
                  have := congrArg List.length eys
                  simp only [List.length_append, List.length_cons] at this
                  omega
                refine ⟨ws, eD6, by rw [lw]; exact Nat.lt_of_lt_of_le lt big_line, ⟨g6, upd h6 D (.lst (ws ++ [v])), s4, r6⟩, ws ++ [v], ds ++ [yd], zs, rfl, hw4, l4', j4', o6.putH eD6 gD6 wD6, (n25.trans n6).putH aD, s25.trans n6.le, upd_same, gD6, wD6, dpa_snoc (dpa_sub n6.le x25) x6, ?_, e7⟩
                rw [← eys, List.append_assoc]
                rfl
          | false =>
            rw [if_neg Bool.false_ne_true] at eb ⊢
            exact ⟨⟨g5, h5, s4, r5⟩, ws, ds, rest, rfl, hw4, l4', j4', o5, n25, s25, eD5, gD5, wD5, x25, eys, eb⟩
  · have ei : i = xs.length := by omega
    subst ei
    rw [List.drop_length] at eb
    unfold lcF at eb
    cases e2 : wipeS vs b.r with
    | none => rw [e2] at eb; cases eb
    | some r2 =>
      rw [e2] at eb
      obtain ⟨rfl, rfl⟩ : [] = rest ∧ r2 = r' := by
        cases eb
        exact ⟨rfl, rfl⟩
      obtain ⟨o2, n2⟩ := wipeS_ok vs b r2 ob e2
      obtain ⟨eD2, gD2, wD2⟩ := n2.fr D _ gD (ob.lstT eD) wD eD
      rw [hw] at o2 n2 wD2
      have live : ∀ (i : Nat) x, r2[i]? = some (some x) → b0.s[i]? = (wipe b0.s vs)[i]? := fun i x e => by
        by_cases hi : i ∈ vs
        · exact absurd e (wipeS_none vs b.r r2 e2 i hi x)
        · exact (wipe_get hi).symm
      obtain ⟨j1, _⟩ := it B ⟨b.g, b.h, wipe b0.s vs, r2⟩ o2 (sb0.trans sb)
      rw [List.append_nil] at eys
      subst eys
      have nfin : Nxt T a ⟨b.g, b.h, b0.s, r2⟩ := by
        have n := nb.trans n2
        exact ⟨n.dm, n.le, fun p u np t w e1 => by
          obtain ⟨e2, n2, w2⟩ := n.fr p u np t w e1
          exact ⟨e2, n2, fun z => w2 (Tied.res live z)⟩, fun i ds e1 => ⟨(n.pot i ds e1).1, potk i ds e1⟩⟩
      exact .inl ⟨j1 _ (Nat.le_refl _), fin b.g b.h ws (o2.res (by rw [wipe_length]) live) nfin sb eD gD (fun z => wD2 (Tied.res live z)) xD⟩
theorem so_lc2 {raw raw1 : Bool} {wi wi1 : TI} {tt tt1 : TG} {tif tif1 : TT} {te : TE} {fi fi1 : FO} {g g1 : FG} {ft ft1 : FT} {fe : FH} {is is1 vs vs1 : List Nat} (hi : SI K T raw wi fi) (hg : SG K T raw tt g is) (ht : STt K T tif ft) (hi1 : SI K T raw1 wi1 fi1) (hg1 : SG K T raw1 tt1 g1 is1) (ht1 : STt K T tif1 ft1) (he : SH K T te fe) (hsub : ∀ i ∈ is, i ∈ vs) (hsub1 : ∀ i ∈ is1, i ∈ vs1) (hv : ∀ i ∈ vs1, i ∈ vs) : SO K T (tLc2 wi tt tif wi1 tt1 tif1 te vs vs1) (fLc2 fi g ft fi1 g1 ft1 fe vs vs1) := fun B a ys r' Q o ef k => by
  unfold fLc2 at ef
  cases e1 : fi a.r with
  | none => rw [e1] at ef; cases ef
  | some q =>
    obtain ⟨xs, r1⟩ := q
    rw [e1, Option.bind_some] at ef
    cases e0 : lc2F g ft fi1 g1 ft1 fe vs vs1 xs r1 with
    | none => rw [e0] at ef; cases ef
    | some z =>
      obtain ⟨ys', r''⟩ := z
      rw [e0, Option.bind_some] at ef
      split at ef
      · rename_i hz
        have ez : ys' = ys ∧ r'' = r' := by
          cases ef
          exact ⟨rfl, rfl⟩
        rw [ez.1, ez.2] at e0
        have hz : ys.length ≤ BIG := by rw [← ez.1]; exact hz
        refine hi B a xs r1 _ o e1 fun J ga ha o1 n1 it => ?_
        intro D hD
        have hD : ha D = none := hD
        have aD : a.h D = none := n1.dm D hD
        have okD := o1.newH (u := .lst []) hD
        have nxD : Nxt T a ⟨ga, upd ha D (.lst []), a.s, r1⟩ := n1.trans (o1.newH_nxt hD)
        refine ⟨fun i m H => m = xs.length - i ∧ i ≤ xs.length ∧ ∃ (b : Sx) (ws : List V) (ds rest : List PyData), b.h = H ∧ wipe b.s vs = wipe a.s vs ∧ b.s.length = a.s.length ∧ (∀ j, j ∉ vs → b.s[j]? = a.s[j]?) ∧ Ok K T B b ∧ Nxt T a b ∧ Sub ga b.g ∧ b.h D = some (.lst ws) ∧ b.g D = none ∧ ¬ Tied b D ∧ DpAll K b.g ws ds ∧ ds ++ rest = ys ∧ lc2F g ft fi1 g1 ft1 fe vs vs1 (xs.drop i) b.r = some (rest, r'),
          ⟨xs.length, rfl, Nat.zero_le _, ⟨ga, upd ha D (.lst []), a.s, r1⟩, [], [], ys, rfl, rfl, rfl, fun _ _ => rfl, okD, nxD, .refl, upd_same, o1.gn hD, o1.untied hD, .nil, rfl, e0⟩, ?_⟩
        rintro i m H ⟨rfl, hi', b, ws, ds, rest, rfl, hw, hl, hj, ob, nb, sb, eD, gD, wD, xD, eys, eb⟩
        by_cases hlt : i < xs.length
        · rw [drop_cons hlt] at eb
          unfold lc2F at eb
          cases e2 : wipeS vs b.r with
          | none => rw [e2] at eb; cases eb
          | some r2 =>
            rw [e2, Option.bind_some] at eb
            obtain ⟨o2, n2⟩ := wipeS_ok vs b r2 ob e2
            have none2 := wipeS_none vs b.r r2 e2
            rw [hw] at o2 n2
            have nb2 := nb.trans n2
            obtain ⟨_, j2⟩ := it B ⟨b.g, b.h, wipe a.s vs, r2⟩ o2 sb
            obtain ⟨jg, jy⟩ := j2 i xs[i] (List.getElem?_eq_getElem hlt)
            obtain ⟨eD2, gD2, wD2⟩ := n2.fr D _ gD (ob.lstT eD) wD eD
            refine .inr ⟨jg, fun H' => ∃ (b : Sx) (ws : List V) (ds rest : List PyData), b.h = H' ∧ wipe b.s vs = wipe a.s vs ∧ b.s.length = a.s.length ∧ (∀ j, j ∉ vs → b.s[j]? = a.s[j]?) ∧ Ok K T B b ∧ Nxt T a b ∧ Sub ga b.g ∧ b.h D = some (.lst ws) ∧ b.g D = none ∧ ¬ Tied b D ∧ DpAll K b.g ws ds ∧ ds ++ rest = ys ∧ lc2F g ft fi1 g1 ft1 fe vs vs1 (xs.drop (i + 1)) b.r = some (rest, r'),
              fun H' q => ⟨xs.length - (i + 1), by omega, rfl, hlt, q⟩, fun x H' y => ?_⟩
            obtain ⟨g3, o3, n3, yl⟩ := jy x H' y
            obtain ⟨eD3, gD3, wD3⟩ := n3.fr D _ gD2 (o2.lstT eD2) wD2 eD2
            cases e3 : g xs[i] r2 with
            | none => rw [e3] at eb; cases eb
            | some r3 =>
              rw [e3, Option.bind_some] at eb
              refine hg B ⟨g3, H', wipe a.s vs, r2⟩ x _ r3 _ o3 yl e3 fun g4 h4 s4 o4 n4 l4 j4 => ?_
              obtain ⟨eD4, gD4, wD4⟩ := n4.fr D _ gD3 (o3.lstT eD3) wD3 eD3
              have l4' : s4.length = a.s.length := by rw [l4, wipe_length]
              have j4' : ∀ j, j ∉ vs → s4[j]? = a.s[j]? := fun j hj => (j4 j fun z => hj (hsub j z)).trans (wipe_get hj)
              have hw4 : wipe s4 vs = wipe a.s vs := wipe_eq l4' j4'
              refine ⟨hw4, ?_⟩
              cases e4 : ft r3 with
              | none => rw [e4] at eb; cases eb
              | some p =>
                obtain ⟨c, r5⟩ := p
                rw [e4, Option.bind_some] at eb
                refine ht B ⟨g4, h4, s4, r3⟩ c r5 _ o4 e4 fun g5 h5 o5 n5 => ?_
                obtain ⟨eD5, gD5, wD5⟩ := n5.fr D _ gD4 (o4.lstT eD4) wD4 eD4
                have n25 := nb2.trans (n3.trans (n4.trans n5))
                have s35 : Sub b.g g5 := n3.le.trans (n4.le.trans n5.le)
                have s25 : Sub ga g5 := sb.trans s35
                have x25 : DpAll K g5 ws ds := dpa_sub s35 xD
                cases c with
                | true =>
                  rw [if_pos rfl] at eb ⊢
                  cases e6 : fi1 r5 with
                  | none => rw [e6] at eb; cases eb
                  | some q =>
                    obtain ⟨xs1, r6⟩ := q
                    rw [e6, Option.bind_some] at eb
                    cases e7 : lcF g1 ft1 fe vs1 xs1 r6 with
                    | none => rw [e7] at eb; cases eb
                    | some z =>
                      obtain ⟨zs, r7⟩ := z
                      rw [e7, Option.bind_some] at eb
                      cases e8 : lc2F g ft fi1 g1 ft1 fe vs vs1 (xs.drop (i + 1)) r7 with
                      | none => rw [e8] at eb; cases eb
                      | some u =>
                        obtain ⟨us, r8⟩ := u
                        rw [e8] at eb
                        cases eb
                        refine hi1 B ⟨g5, h5, s4, r5⟩ xs1 r6 _ o5 e6 fun J1 g6 h6 o6 n6 it1 => ?_
                        obtain ⟨eD6, gD6, wD6⟩ := n6.fr D _ gD5 (o5.lstT eD5) wD5 eD5
                        have n26 := n25.trans n6
                        refine lc_run (b0 := ⟨g6, h6, s4, r6⟩) (a := a) hg1 ht1 he hsub1 it1 aD o6 n26 .refl eD6 gD6 wD6 (dpa_sub n6.le x25) ?_ e7 (fun g' h' ws' o7 n7 s7 e9 g9 w9 x9 => ?_) (fun i ds e => (n26.pot i ds e).2)
                        · have := congrArg List.length eys
                          simp only [List.length_append] at this
                          omega
                        · exact ⟨⟨g', h', s4, r7⟩, ws', ds ++ zs, us, rfl, hw4, l4', j4', o7, n7, (s25.trans n6.le).trans s7, e9, g9, w9, x9, by rw [List.append_assoc]; exact eys, e8⟩
                | false =>
                  rw [if_neg Bool.false_ne_true] at eb ⊢
                  exact ⟨⟨g5, h5, s4, r5⟩, ws, ds, rest, rfl, hw4, l4', j4', o5, n25, s25, eD5, gD5, wD5, x25, eys, eb⟩
        · have ei : i = xs.length := by omega
          subst ei
          rw [List.drop_length] at eb
          unfold lc2F at eb
          cases e2 : wipeS vs b.r with
          | none => rw [e2] at eb; cases eb
          | some r2 =>
            rw [e2] at eb
            obtain ⟨rfl, rfl⟩ : [] = rest ∧ r2 = r' := by
              cases eb
              exact ⟨rfl, rfl⟩
            obtain ⟨o2, n2⟩ := wipeS_ok vs b r2 ob e2
            obtain ⟨eD2, gD2, wD2⟩ := n2.fr D _ gD (ob.lstT eD) wD eD
            rw [hw] at o2 n2 wD2
            have live : ∀ (i : Nat) x, r2[i]? = some (some x) → a.s[i]? = (wipe a.s vs)[i]? := fun i x e => by
              by_cases hi : i ∈ vs
              · exact absurd e (wipeS_none vs b.r r2 e2 i hi x)
              · exact (wipe_get hi).symm
            obtain ⟨j1, _⟩ := it B ⟨b.g, b.h, wipe a.s vs, r2⟩ o2 sb
            rw [List.append_nil] at eys
            subst eys
            exact .inl ⟨j1 _ (Nat.le_refl _), k D ws b.g b.h (o2.res (by rw [wipe_length]) live) ((nb.trans n2).res live) aD eD gD (fun z => wD2 (Tied.res live z)) xD⟩
      · cases ef
theorem qo_lc2 {elt tg iter tg1 iter1 : Expr} {ifs ifs1 : List Expr} {scope : Scope} {own : List (Str × Nat)} {vs1 : List Nat} {pos : Pos} {raw raw1 : Bool} {wi wi1 : TI} {tt tt1 : TG} {tif tif1 : TT} {te : TE} {fi fi1 : FO} {g g1 : FG} {ft ft1 : FT} {fe : FH} {is is1 : List Nat} (hc : X.calm = true) (hN : X.N.Nodup) (hi : QI X K T raw tg iter wi fi) (ok : BlkOk X.N X.env.scope scope own) (hv : ∀ i ∈ vs1, i ∈ own.map (·.2))
    (hg : ∀ (s : Shared) (H : Hp) (C : Addr) (cl : List (Str × Addr)) (fp : List Addr), QG (X.blk s H scope (compEnvC scope cl C X.env) fp) K T raw tg tt g is) (ht : ∀ (s : Shared) (H : Hp) (C : Addr) (cl : List (Str × Addr)) (fp : List Addr), QTs (X.blk s H scope (compEnvC scope cl C X.env) fp) K T ifs tif ft)
    (hi1 : ∀ (s : Shared) (H : Hp) (C : Addr) (cl : List (Str × Addr)) (fp : List Addr), QI (X.blk s H scope (compEnvC scope cl C X.env) fp) K T raw1 tg1 iter1 wi1 fi1)
    (hg1 : ∀ (s : Shared) (H : Hp) (C : Addr) (cl : List (Str × Addr)) (fp : List Addr), QG (X.blk s H scope (compEnvC scope cl C X.env) fp) K T raw1 tg1 tt1 g1 is1) (ht1 : ∀ (s : Shared) (H : Hp) (C : Addr) (cl : List (Str × Addr)) (fp : List Addr), QTs (X.blk s H scope (compEnvC scope cl C X.env) fp) K T ifs1 tif1 ft1)
    (he : ∀ (s : Shared) (H : Hp) (C : Addr) (cl : List (Str × Addr)) (fp : List Addr), QH (X.blk s H scope (compEnvC scope cl C X.env) fp) K T elt te fe) (hsub : ∀ i ∈ is, i ∈ own.map (·.2)) (hsub1 : ∀ i ∈ is1, i ∈ vs1) (hs : ∀ x, foldedSetIterable iter X.env x = pure x := by intro _; rfl) (hs1 : ∀ env x, foldedSetIterable iter1 env x = pure x := by intro _ _; rfl) :
    QO X K T (.ListComp elt [⟨tg, iter, ifs, 0⟩, ⟨tg1, iter1, ifs1, 0⟩] scope pos) (tLc2 wi tt tif wi1 tt1 tif1 te (own.map (·.2)) vs1) (fLc2 fi g ft fi1 g1 ft1 fe (own.map (·.2)) vs1) :=
  let z : Shared := {}
  ⟨hi.k, pe_lc2 hc hN hi.pi ok hv (fun s H C cl fp => (hg s H C cl fp).pg) (fun s H C cl fp => (ht s H C cl fp).pt) (fun s H C cl fp => (hi1 s H C cl fp).pi) (fun s H C cl fp => (hg1 s H C cl fp).pg) (fun s H C cl fp => (ht1 s H C cl fp).pt) (fun s H C cl fp => (he s H C cl fp).pe) hs hs1,
    so_lc2 hi.so (hg z (fun _ => none) 0 [] []).so (ht z (fun _ => none) 0 [] []).so (hi1 z (fun _ => none) 0 [] []).so (hg1 z (fun _ => none) 0 [] []).so (ht1 z (fun _ => none) 0 [] []).so (he z (fun _ => none) 0 [] []).so hsub hsub1 hv⟩
/-! y = [..] on one row -/
section
variable {i : Nat} {y : Str} {py : Pos} {elt tg iter tg1 iter1 : Expr} {ifs ifs1 : List Expr} {scope : Scope} {own : List (Str × Nat)} {vs1 : List Nat} {pos spos : Pos} {raw raw1 : Bool} {wi wi1 : TI} {tt tt1 : TG} {tif tif1 : TT} {te : TE} {fi fi1 : FO} {g g1 : FG} {ft ft1 : FT} {fe : FH} {is is1 : List Nat}
theorem ps_of_lc (hc : X.calm = true) (hN : X.N.Nodup) (hy : X.N[i]? = some y) (hyl : X.env.scope.names.lookup y = some .local)
    (hsw : swapsWith (.ListComp elt [⟨tg, iter, ifs, 0⟩] scope pos) (some (.Name y py)) spos.line X.env = pure true) (hi : QI X K T raw tg iter wi fi) (ok : BlkOk X.N X.env.scope scope own)
    (hg : ∀ (s : Shared) (H : Hp) (C : Addr) (cl : List (Str × Addr)) (fp : List Addr), QG (X.blk s H scope (compEnvC scope cl C X.env) fp) K T raw tg tt g is) (ht : ∀ (s : Shared) (H : Hp) (C : Addr) (cl : List (Str × Addr)) (fp : List Addr), QTs (X.blk s H scope (compEnvC scope cl C X.env) fp) K T ifs tif ft)
    (he : ∀ (s : Shared) (H : Hp) (C : Addr) (cl : List (Str × Addr)) (fp : List Addr), QH (X.blk s H scope (compEnvC scope cl C X.env) fp) K T elt te fe) (hsub : ∀ i ∈ is, i ∈ own.map (·.2)) (hs : ∀ x, foldedSetIterable iter X.env x = pure x) :
    PS X (.Assign [.Name y py] (.ListComp elt [⟨tg, iter, ifs, 0⟩] scope pos) spos) (tAsg (tLc wi tt tif te (own.map (·.2))) (gName i)) ∧ SO K T (tLc wi tt tif te (own.map (·.2))) (fLc fi g ft fe (own.map (·.2))) :=
  let z : Shared := {}
  ⟨ps_setLc hc hN hy hyl hsw hi.pi ok (fun s H C cl fp => (hg s H C cl fp).pg) (fun s H C cl fp => (ht s H C cl fp).pt) (fun s H C cl fp => (he s H C cl fp).pe) hs, so_lc hi.so (hg z (fun _ => none) 0 [] []).so (ht z (fun _ => none) 0 [] []).so (he z (fun _ => none) 0 [] []).so hsub⟩
theorem so_upO {t : TE} {f : FO} (h : SO K T t f) : SH K T t (upO f) := fun B a d r' Q o ef k => by
  unfold upO at ef
  cases e1 : f a.r with
  | none =>
    rw [e1] at ef
    cases ef
  | some z =>
    rw [e1] at ef
    cases ef
    refine h B a _ _ Q o e1 fun p vs g' h' o' n hp e2 gp w x => ?_
    exact k _ _ _ (o'.rel e2 gp w) (n.rel hp gp) (.lst (SqL.of upd_same) (dpa_sub (Sub.new gp) x))
theorem qs_setLc (hc : X.calm = true) (hN : X.N.Nodup) (hy : X.N[i]? = some y) (hyl : X.env.scope.names.lookup y = some .local)
    (hsw : swapsWith (.ListComp elt [⟨tg, iter, ifs, 0⟩] scope pos) (some (.Name y py)) spos.line X.env = pure true) (hi : QI X K T raw tg iter wi fi) (ok : BlkOk X.N X.env.scope scope own)
    (hg : ∀ (s : Shared) (H : Hp) (C : Addr) (cl : List (Str × Addr)) (fp : List Addr), QG (X.blk s H scope (compEnvC scope cl C X.env) fp) K T raw tg tt g is) (ht : ∀ (s : Shared) (H : Hp) (C : Addr) (cl : List (Str × Addr)) (fp : List Addr), QTs (X.blk s H scope (compEnvC scope cl C X.env) fp) K T ifs tif ft)
    (he : ∀ (s : Shared) (H : Hp) (C : Addr) (cl : List (Str × Addr)) (fp : List Addr), QH (X.blk s H scope (compEnvC scope cl C X.env) fp) K T elt te fe) (hsub : ∀ i ∈ is, i ∈ own.map (·.2)) (hs : ∀ x, foldedSetIterable iter X.env x = pure x := by intro _; rfl) :
    QS X K T (.Assign [.Name y py] (.ListComp elt [⟨tg, iter, ifs, 0⟩] scope pos) spos) (tAsg (tLc wi tt tif te (own.map (·.2))) (gName i)) (gSet i (upO (fLc fi g ft fe (own.map (·.2))))) :=
  let h := ps_of_lc (i := i) (py := py) (spos := spos) hc hN hy hyl hsw hi ok hg ht he hsub hs
  ⟨hi.k, h.1, ss_asg (so_upO h.2) (sg_name i)⟩
theorem qs_setLcO (hc : X.calm = true) (hN : X.N.Nodup) (hy : X.N[i]? = some y) (hyl : X.env.scope.names.lookup y = some .local)
    (hsw : swapsWith (.ListComp elt [⟨tg, iter, ifs, 0⟩] scope pos) (some (.Name y py)) spos.line X.env = pure true) (hi : QI X K T raw tg iter wi fi) (ok : BlkOk X.N X.env.scope scope own)
    (hg : ∀ (s : Shared) (H : Hp) (C : Addr) (cl : List (Str × Addr)) (fp : List Addr), QG (X.blk s H scope (compEnvC scope cl C X.env) fp) K T raw tg tt g is) (ht : ∀ (s : Shared) (H : Hp) (C : Addr) (cl : List (Str × Addr)) (fp : List Addr), QTs (X.blk s H scope (compEnvC scope cl C X.env) fp) K T ifs tif ft)
    (he : ∀ (s : Shared) (H : Hp) (C : Addr) (cl : List (Str × Addr)) (fp : List Addr), QH (X.blk s H scope (compEnvC scope cl C X.env) fp) K T elt te fe) (hsub : ∀ i ∈ is, i ∈ own.map (·.2)) (hs : ∀ x, foldedSetIterable iter X.env x = pure x := by intro _; rfl) :
    QS X K T (.Assign [.Name y py] (.ListComp elt [⟨tg, iter, ifs, 0⟩] scope pos) spos) (tAsg (tLc wi tt tif te (own.map (·.2))) (gName i)) (gSetO i (fLc fi g ft fe (own.map (·.2)))) :=
  let h := ps_of_lc (i := i) (py := py) (spos := spos) hc hN hy hyl hsw hi ok hg ht he hsub hs
  ⟨hi.k, h.1, ss_setO h.2⟩
theorem qs_setLc2 (hc : X.calm = true) (hN : X.N.Nodup) (hy : X.N[i]? = some y) (hyl : X.env.scope.names.lookup y = some .local)
    (hsw : swapsWith (.ListComp elt [⟨tg, iter, ifs, 0⟩, ⟨tg1, iter1, ifs1, 0⟩] scope pos) (some (.Name y py)) spos.line X.env = pure true) (hi : QI X K T raw tg iter wi fi) (ok : BlkOk X.N X.env.scope scope own) (hv : ∀ i ∈ vs1, i ∈ own.map (·.2))
    (hg : ∀ (s : Shared) (H : Hp) (C : Addr) (cl : List (Str × Addr)) (fp : List Addr), QG (X.blk s H scope (compEnvC scope cl C X.env) fp) K T raw tg tt g is) (ht : ∀ (s : Shared) (H : Hp) (C : Addr) (cl : List (Str × Addr)) (fp : List Addr), QTs (X.blk s H scope (compEnvC scope cl C X.env) fp) K T ifs tif ft)
    (hi1 : ∀ (s : Shared) (H : Hp) (C : Addr) (cl : List (Str × Addr)) (fp : List Addr), QI (X.blk s H scope (compEnvC scope cl C X.env) fp) K T raw1 tg1 iter1 wi1 fi1)
    (hg1 : ∀ (s : Shared) (H : Hp) (C : Addr) (cl : List (Str × Addr)) (fp : List Addr), QG (X.blk s H scope (compEnvC scope cl C X.env) fp) K T raw1 tg1 tt1 g1 is1) (ht1 : ∀ (s : Shared) (H : Hp) (C : Addr) (cl : List (Str × Addr)) (fp : List Addr), QTs (X.blk s H scope (compEnvC scope cl C X.env) fp) K T ifs1 tif1 ft1)
    (he : ∀ (s : Shared) (H : Hp) (C : Addr) (cl : List (Str × Addr)) (fp : List Addr), QH (X.blk s H scope (compEnvC scope cl C X.env) fp) K T elt te fe) (hsub : ∀ i ∈ is, i ∈ own.map (·.2)) (hsub1 : ∀ i ∈ is1, i ∈ vs1) (hs : ∀ x, foldedSetIterable iter X.env x = pure x := by intro _; rfl) (hs1 : ∀ env x, foldedSetIterable iter1 env x = pure x := by intro _ _; rfl) :
    QS X K T (.Assign [.Name y py] (.ListComp elt [⟨tg, iter, ifs, 0⟩, ⟨tg1, iter1, ifs1, 0⟩] scope pos) spos) (tAsg (tLc2 wi tt tif wi1 tt1 tif1 te (own.map (·.2)) vs1) (gName i)) (gSet i (upO (fLc2 fi g ft fi1 g1 ft1 fe (own.map (·.2)) vs1))) :=
  let z : Shared := {}
  ⟨hi.k, ps_setLc2 hc hN hy hyl hsw hi.pi ok hv (fun s H C cl fp => (hg s H C cl fp).pg) (fun s H C cl fp => (ht s H C cl fp).pt) (fun s H C cl fp => (hi1 s H C cl fp).pi) (fun s H C cl fp => (hg1 s H C cl fp).pg) (fun s H C cl fp => (ht1 s H C cl fp).pt) (fun s H C cl fp => (he s H C cl fp).pe) hs hs1,
    ss_asg (so_upO (so_lc2 hi.so (hg z (fun _ => none) 0 [] []).so (ht z (fun _ => none) 0 [] []).so (hi1 z (fun _ => none) 0 [] []).so (hg1 z (fun _ => none) 0 [] []).so (ht1 z (fun _ => none) 0 [] []).so (he z (fun _ => none) 0 [] []).so hsub hsub1 hv)) (sg_name i)⟩
end
end
end Pv

set_option Elab.async false
set_option linter.all false
set_option maxRecDepth 100000
set_option maxHeartbeats 2000000
namespace Pv
open PySem PySem.Spec PyProof.Rows L2 Lb

section
variable {X : Cx} {K : PySem.W.Frag} {T : Addr → Prop} {e ea eb ec : Expr} {te ta tb tc : TE} {p pos : Pos} {rest : List Expr}
def rLenK (K : PySem.W.Frag) : List V → Hp → VK → Prop := fun xs H Q => ∃ x n, xs = [x] ∧ LenV K x H n ∧ Q (.int (n : Nat)) H
theorem call_lenK (k : X.K = K) : CallR X (.builtin "len") (rLenK K) := k ▸ call_len
def rListK (K : PySem.W.Frag) : List V → Hp → VK → Prop := fun xs H Q => ∃ p ys, xs = [.ref p] ∧ (SqL K H p ys ∨ SqT K H p ys) ∧ ∀ l, H l = none → Q (.ref l) (upd H l (.lst ys))
theorem call_listK (k : X.K = K) : CallR X (.type "list") (rListK K) := k ▸ call_list_of
def rIntK : List V → Hp → VK → Prop := fun xs H Q => (∃ i, xs = [.int i] ∧ Q (.int i) H) ∨ ∃ k, xs = [.bl k] ∧ Q (.int (if k then 1 else 0)) H
def rAbsK : List V → Hp → VK → Prop := fun xs H Q => ∃ i, xs = [.int i] ∧ Q (.int (if i < 0 then -i else i)) H
def rMax2K : List V → Hp → VK → Prop := fun xs H Q => ∃ i j, xs = [.int i, .int j] ∧ Q (.int (if j > i then j else i)) H
def rMin2K : List V → Hp → VK → Prop := fun xs H Q => ∃ i j, xs = [.int i, .int j] ∧ Q (.int (if j < i then j else i)) H
theorem qp_len {f : FP} (hg : Gl X "len") (hm : X.mg "len" = none) (ha : QB X K T e te f) (he : starEach [e] X.env = (false, eval e X.env) :: starEach [] X.env := by rfl) : QP X K T (.Call (.Name "len" p) [e] [] pos) (tThen te (on1 (rLenK K))) (f1 dLen f) := qp_b1 (call_lenK ha.k) up_len hg hm PySem.boot_len ha (by decide) (by decide) he rfl
theorem qh_len {f : FH} (hg : Gl X "len") (hm : X.mg "len" = none) (ha : QH X K T e te f) (he : starEach [e] X.env = (false, eval e X.env) :: starEach [] X.env := by rfl) : QH X K T (.Call (.Name "len" p) [e] [] pos) (tThen te (on1 (rLenK K))) (h1 dLen f) := qh_b1 (call_lenK ha.k) up_len hg hm PySem.boot_len ha (by decide) (by decide) he rfl
theorem qp_abs {f : FP} (hg : Gl X "abs") (hm : X.mg "abs" = none) (ha : QB X K T e te f) (he : starEach [e] X.env = (false, eval e X.env) :: starEach [] X.env := by rfl) : QP X K T (.Call (.Name "abs" p) [e] [] pos) (tThen te (on1 rAbsK)) (f1 dAbs f) := qp_b1 call_abs up_abs hg hm (by decide +kernel) ha (by decide) (by decide) he rfl
theorem qp_intc {f : FP} (hg : Gl X "int") (hm : X.mg "int" = none) (ha : QB X K T e te f) (he : starEach [e] X.env = (false, eval e X.env) :: starEach [] X.env := by rfl) : QP X K T (.Call (.Name "int" p) [e] [] pos) (tThen te (on1 rIntK)) (f1 dInt f) := qp_t1 call_int1 up_int hg hm (by decide +kernel) ha (by decide) (by decide) he rfl
theorem qp_sum {f : FP} (hc : X.calm = true) (hg : Gl X "sum") (hm : X.mg "sum" = none) (ha : QB X K T e te f) (he : starEach [e] X.env = (false, eval e X.env) :: starEach [] X.env := by rfl) : QP X K T (.Call (.Name "sum" p) [e] [] pos) (tThen te (on1 (rSum K))) (f1 dSum f) := qp_b1 (ha.k ▸ cr_sum hc) up_sum hg hm (by decide +kernel) ha (by decide) (by decide) he rfl
theorem qh_sum {f : FH} (hc : X.calm = true) (hg : Gl X "sum") (hm : X.mg "sum" = none) (ha : QH X K T e te f) (he : starEach [e] X.env = (false, eval e X.env) :: starEach [] X.env := by rfl) : QH X K T (.Call (.Name "sum" p) [e] [] pos) (tThen te (on1 (rSum K))) (h1 dSum f) := qh_b1 (ha.k ▸ cr_sum hc) up_sum hg hm (by decide +kernel) ha (by decide) (by decide) he rfl
theorem qp_all {f : FP} (hc : X.calm = true) (hg : Gl X "all") (hm : X.mg "all" = none) (ha : QB X K T e te f) (he : starEach [e] X.env = (false, eval e X.env) :: starEach [] X.env := by rfl) : QP X K T (.Call (.Name "all" p) [e] [] pos) (tThen te (on1 (rAll K))) (f1 dAll f) := qp_b1 (ha.k ▸ cr_all hc) up_all hg hm (by decide +kernel) ha (by decide) (by decide) he rfl
theorem qh_all {f : FH} (hc : X.calm = true) (hg : Gl X "all") (hm : X.mg "all" = none) (ha : QH X K T e te f) (he : starEach [e] X.env = (false, eval e X.env) :: starEach [] X.env := by rfl) : QH X K T (.Call (.Name "all" p) [e] [] pos) (tThen te (on1 (rAll K))) (h1 dAll f) := qh_b1 (ha.k ▸ cr_all hc) up_all hg hm (by decide +kernel) ha (by decide) (by decide) he rfl
theorem qp_maxs {f : FP} (hc : X.calm = true) (hu : X.A.units + 1 < cLine) (hg : Gl X "max") (hm : X.mg "max" = none) (ha : QB X K T e te f) (he : starEach [e] X.env = (false, eval e X.env) :: starEach [] X.env := by rfl) : QP X K T (.Call (.Name "max" p) [e] [] pos) (tThen te (on1 (rMaxS K))) (f1 dMax f) := qp_b1 (ha.k ▸ cr_maxS hc hu) up_max hg hm (by decide +kernel) ha (by decide) (by decide) he rfl
theorem qh_maxs {f : FH} (hc : X.calm = true) (hu : X.A.units + 1 < cLine) (hg : Gl X "max") (hm : X.mg "max" = none) (ha : QH X K T e te f) (he : starEach [e] X.env = (false, eval e X.env) :: starEach [] X.env := by rfl) : QH X K T (.Call (.Name "max" p) [e] [] pos) (tThen te (on1 (rMaxS K))) (h1 dMax f) := qh_b1 (ha.k ▸ cr_maxS hc hu) up_max hg hm (by decide +kernel) ha (by decide) (by decide) he rfl
theorem qp_mins {f : FP} (hc : X.calm = true) (hu : X.A.units + 1 < cLine) (hg : Gl X "min") (hm : X.mg "min" = none) (ha : QB X K T e te f) (he : starEach [e] X.env = (false, eval e X.env) :: starEach [] X.env := by rfl) : QP X K T (.Call (.Name "min" p) [e] [] pos) (tThen te (on1 (rMinS K))) (f1 dMin f) := qp_b1 (ha.k ▸ cr_minS hc hu) up_min hg hm (by decide +kernel) ha (by decide) (by decide) he rfl
theorem qh_mins {f : FH} (hc : X.calm = true) (hu : X.A.units + 1 < cLine) (hg : Gl X "min") (hm : X.mg "min" = none) (ha : QH X K T e te f) (he : starEach [e] X.env = (false, eval e X.env) :: starEach [] X.env := by rfl) : QH X K T (.Call (.Name "min" p) [e] [] pos) (tThen te (on1 (rMinS K))) (h1 dMin f) := qh_b1 (ha.k ▸ cr_minS hc hu) up_min hg hm (by decide +kernel) ha (by decide) (by decide) he rfl
theorem qo_sort {f : FP} (hg : Gl X "sorted") (hm : X.mg "sorted" = none) (ha : QB X K T e te f) (he : starEach [e] X.env = (false, eval e X.env) :: starEach [] X.env := by rfl) : QO X K T (.Call (.Name "sorted" p) [e] [] pos) (tThen te (on1 (rSortLT K))) (o1 dSort (up f)) := qo_b1 (ha.k ▸ cr_sortLT) uo_sort hg hm (by decide +kernel) ha (by decide) (by decide) he rfl
theorem qo_sorth {f : FH} (hg : Gl X "sorted") (hm : X.mg "sorted" = none) (ha : QH X K T e te f) (he : starEach [e] X.env = (false, eval e X.env) :: starEach [] X.env := by rfl) : QO X K T (.Call (.Name "sorted" p) [e] [] pos) (tThen te (on1 (rSortLT K))) (o1 dSort f) := qo_b1h (ha.k ▸ cr_sortLT) uo_sort hg hm (by decide +kernel) ha (by decide) (by decide) he rfl
theorem qo_list {f : FP} (hg : Gl X "list") (hm : X.mg "list" = none) (ha : QB X K T e te f) (he : starEach [e] X.env = (false, eval e X.env) :: starEach [] X.env := by rfl) : QO X K T (.Call (.Name "list" p) [e] [] pos) (tThen te (on1 (rListK K))) (o1 seqD (up f)) := qo_t1 (call_listK ha.k) uo_list hg hm (by decide +kernel) ha (by decide) (by decide) he rfl
theorem qo_listh {f : FH} (hg : Gl X "list") (hm : X.mg "list" = none) (ha : QH X K T e te f) (he : starEach [e] X.env = (false, eval e X.env) :: starEach [] X.env := by rfl) : QO X K T (.Call (.Name "list" p) [e] [] pos) (tThen te (on1 (rListK K))) (o1 seqD f) := qo_t1h (call_listK ha.k) uo_list hg hm (by decide +kernel) ha (by decide) (by decide) he rfl
theorem qp_rep {f : FP} (hgd : X.A.guards = some []) (hu : X.A.units + 9 < cLine) (hg : Gl X "repr") (hm : X.mg "repr" = none) (ha : QB X K T e te f) (he : starEach [e] X.env = (false, eval e X.env) :: starEach [] X.env := by rfl) : QP X K T (.Call (.Name "repr" p) [e] [] pos) (tThen te (on1 (rReprD K 8))) (f1 dRep f) := qp_b1 (ha.k ▸ cr_reprD hgd hu) up_rep hg hm (by decide +kernel) ha (by decide) (by decide) he rfl
theorem qh_rep {f : FH} (hgd : X.A.guards = some []) (hu : X.A.units + 9 < cLine) (hg : Gl X "repr") (hm : X.mg "repr" = none) (ha : QH X K T e te f) (he : starEach [e] X.env = (false, eval e X.env) :: starEach [] X.env := by rfl) : QH X K T (.Call (.Name "repr" p) [e] [] pos) (tThen te (on1 (rReprD K 8))) (h1 dRep f) := qh_b1 (ha.k ▸ cr_reprD hgd hu) up_rep hg hm (by decide +kernel) ha (by decide) (by decide) he rfl
theorem qp_max2 {f g : FP} (hc : X.calm = true) (hg : Gl X "max") (hm : X.mg "max" = none) (ha : QB X K T ea ta f) (hb : QB X K T eb tb g) (he : starEach [ea, eb] X.env = (false, eval ea X.env) :: starEach [eb] X.env := by rfl) (he2 : starEach [eb] X.env = (false, eval eb X.env) :: starEach [] X.env := by rfl) (hpl : (backTo pos (starEach [eb] X.env)).any (·.1) = false := by rfl) : QP X K T (.Call (.Name "max" p) [ea, eb] [] pos) (tOp (on2 rMax2K) ta tb) (f2 dMax2 f g) := qp_b2 (call_max2 hc) (os2_ii fun _ _ _ => .int _) hg hm (by decide +kernel) ha hb (by decide) (by decide) he he2 hpl
theorem qp_min2 {f g : FP} (hc : X.calm = true) (hg : Gl X "min") (hm : X.mg "min" = none) (ha : QB X K T ea ta f) (hb : QB X K T eb tb g) (he : starEach [ea, eb] X.env = (false, eval ea X.env) :: starEach [eb] X.env := by rfl) (he2 : starEach [eb] X.env = (false, eval eb X.env) :: starEach [] X.env := by rfl) (hpl : (backTo pos (starEach [eb] X.env)).any (·.1) = false := by rfl) : QP X K T (.Call (.Name "min" p) [ea, eb] [] pos) (tOp (on2 rMin2K) ta tb) (f2 dMin2 f g) := qp_b2 (call_min2 hc) (os2_ii fun _ _ _ => .int _) hg hm (by decide +kernel) ha hb (by decide) (by decide) he he2 hpl
theorem qp_divmod {f g : FP} (hg : Gl X "divmod") (hm : X.mg "divmod" = none) (ha : QB X K T ea ta f) (hb : QB X K T eb tb g) (he : starEach [ea, eb] X.env = (false, eval ea X.env) :: starEach [eb] X.env := by rfl) (he2 : starEach [eb] X.env = (false, eval eb X.env) :: starEach [] X.env := by rfl) (hpl : (backTo pos (starEach [eb] X.env)).any (·.1) = false := by rfl) : QP X K T (.Call (.Name "divmod" p) [ea, eb] [] pos) (tOp (on2 rDivF) ta tb) (f2 dDivmod f g) := qp_b2 call_divF os_divF hg hm (by decide +kernel) ha hb (by decide) (by decide) he he2 hpl
/-! tests that are comparisons -/
theorem qt_cmP {op : CmpOp} {r : R2} {fo : D → D → Option D} {f g : FP} (hr : OpR X (compareOp op) r) (ho : OpS K T r fo) (ha : QB X K T ea ta f) (hb : QB X K T eb tb g) (hm : behindInMarks op eb = false) : QT X K T (.Compare ea [op] [eb] pos) (tTest (tOp r ta tb)) (fTst (up (f2 fo f g))) := ⟨ha.k, pt_cmpR hr ha.pe hb.pe hm, st_tst (qp_cm (pos := pos) hr ho ha hb hm).h.so⟩
theorem qt_cmH {op : CmpOp} {r : R2} {fo : D → D → Option D} {f g : FH} (hr : OpR X (compareOp op) r) (ho : OpS K T r fo) (ha : QH X K T ea ta f) (hb : QH X K T eb tb g) (hm : behindInMarks op eb = false) : QT X K T (.Compare ea [op] [eb] pos) (tTest (tOp r ta tb)) (fTst (h2 fo f g)) := ⟨ha.k, pt_cmpR hr ha.pe hb.pe hm, st_tst (sh_op ho ha.so hb.so)⟩
theorem qt_eqP {f g : FP} (hu : X.A.units + 64 < cLine) (ha : QB X K T ea ta f) (hb : QB X K T eb tb g) : QT X K T (.Compare ea [.Eq] [eb] pos) (tTest (tOp (rEqD K) ta tb)) (fTst (up (f2 dEq f g))) := qt_cmP (ha.k ▸ op_eqD hu) os_eq ha hb (nomark _)
theorem qt_neP {f g : FP} (hu : X.A.units + 64 < cLine) (ha : QB X K T ea ta f) (hb : QB X K T eb tb g) : QT X K T (.Compare ea [.NotEq] [eb] pos) (tTest (tOp (rNeD K) ta tb)) (fTst (up (f2 dNe f g))) := qt_cmP (ha.k ▸ op_neD hu) os_ne ha hb (nomark _)
theorem qt_eqH {f g : FH} (hu : X.A.units + 64 < cLine) (ha : QH X K T ea ta f) (hb : QH X K T eb tb g) : QT X K T (.Compare ea [.Eq] [eb] pos) (tTest (tOp (rEqD K) ta tb)) (fTst (h2 dEq f g)) := qt_cmH (ha.k ▸ op_eqD hu) os_eq ha hb (nomark _)
theorem qt_neH {f g : FH} (hu : X.A.units + 64 < cLine) (ha : QH X K T ea ta f) (hb : QH X K T eb tb g) : QT X K T (.Compare ea [.NotEq] [eb] pos) (tTest (tOp (rNeD K) ta tb)) (fTst (h2 dNe f g)) := qt_cmH (ha.k ▸ op_neD hu) os_ne ha hb (nomark _)
theorem qt_inP {f g : FP} (hu : X.A.units + 65 < cLine) (ha : QB X K T ea ta f) (hb : QB X K T eb tb g) (hm : behindInMarks .In eb = false := by with_unfolding_all rfl) : QT X K T (.Compare ea [.In] [eb] pos) (tTest (tOp (rInG K false) ta tb)) (fTst (up (f2 dIn f g))) := qt_cmP (ha.k ▸ op_inG hu) os_in ha hb hm
theorem qt_notInP {f g : FP} (hu : X.A.units + 65 < cLine) (ha : QB X K T ea ta f) (hb : QB X K T eb tb g) (hm : behindInMarks .NotIn eb = false := by with_unfolding_all rfl) : QT X K T (.Compare ea [.NotIn] [eb] pos) (tTest (tOp (rInG K true) ta tb)) (fTst (up (f2 dNotIn f g))) := qt_cmP (ha.k ▸ op_notInG hu) os_notIn ha hb hm
theorem qt_chain {op op' : CmpOp} {pp qq : Int → Int → Bool} {f g h : FP} (h1 : OpR X (compareOp op) (rI0 fun i j => .bl (pp i j))) (h2 : OpR X (compareOp op') (rI0 fun i j => .bl (qq i j))) (ha : QB X K T ea ta f) (hb : QB X K T eb tb g) (hc : QB X K T ec tc h)
    (hm : lastMarks [op, op'] [eb, ec] = false := by with_unfolding_all rfl) : QT X K T (.Compare ea [op, op'] [eb, ec] pos) (tTest (tChain (rI0 fun i j => .bl (pp i j)) (rI0 fun i j => .bl (qq i j)) ta tb tc)) (fTst (up (fChain pp qq f g h))) := ⟨ha.k, pt_chain h1 h2 ha.pe hb.pe hc.pe hm, st_tst (qp_chain (pos := pos) h1 h2 ha hb hc hm).h.so⟩
/-- a written constant -/
theorem qp_glob {x : Str} {v : V} {u : Value} {d : D} {pos : Pos} (hg : Gl X x) (hm : X.mg x = some u) (r : RelV v u) (xd : ∀ g, Dp K g v d) (hdb : (x == ("__debug__" : Str)) = false := by decide) (hk : X.K = K := by rfl) : QP X K T (.Name x pos) (tC v) (fC d) := qp_c (pe_glob hg hm r hdb) xd hk
end
/-! keywords -/
def kwr {α : Type} : List α → List α → List α := fun _ l => l
section
variable {K : PySem.W.Frag}
def kv1 {α : Type} : List α → List α → List α
  | [], [a] => [a]
  | _, _ => []
def kv2 {α : Type} : List α → List α → List α
  | [], [a, b] => [b, a]
  | _, _ => []
def kv3 {α : Type} : List α → List α → List α
  | [], [a, b, c] => [c, b, a]
  | _, _ => []
theorem kv1_rel {vs : List V} {us : List Value} {zs : List V} {ws : List Value} (r : Vals vs us) (q : Vals zs ws) : Vals (kv1 vs zs) (kv1 us ws) := by
  cases r with
  | nil =>
    cases q with
    | nil => exact .nil
    | cons a t =>
      cases t with
      | nil => exact .cons a .nil
      | cons _ _ => exact .nil
  | cons _ _ => exact .nil
theorem kv2_rel {vs : List V} {us : List Value} {zs : List V} {ws : List Value} (r : Vals vs us) (q : Vals zs ws) : Vals (kv2 vs zs) (kv2 us ws) := by
  cases r with
  | nil =>
    cases q with
    | nil => exact .nil
    | cons a t =>
      cases t with
      | nil => exact .nil
      | cons b t =>
        cases t with
        | nil => exact .cons b (.cons a .nil)
        | cons _ _ => exact .nil
  | cons _ _ => exact .nil
theorem kv3_rel {vs : List V} {us : List Value} {zs : List V} {ws : List Value} (r : Vals vs us) (q : Vals zs ws) : Vals (kv3 vs zs) (kv3 us ws) := by
  cases r with
  | nil =>
    cases q with
    | nil => exact .nil
    | cons a t =>
      cases t with
      | nil => exact .nil
      | cons b t =>
        cases t with
        | nil => exact .nil
        | cons c t =>
          cases t with
          | nil => exact .cons c (.cons b (.cons a .nil))
          | cons _ _ => exact .nil
  | cons _ _ => exact .nil
theorem pm1 : PermOk K kv1 (kv1 []) := fun g vs ds h => by
  cases h with
  | nil => exact .nil
  | cons a t =>
    cases t with
    | nil => exact .cons a .nil
    | cons _ _ => exact .nil
theorem pm2 : PermOk K kv2 (kv2 []) := fun g vs ds h => by
  cases h with
  | nil => exact .nil
  | cons a t =>
    cases t with
    | nil => exact .nil
    | cons b t =>
      cases t with
      | nil => exact .cons b (.cons a .nil)
      | cons _ _ => exact .nil
theorem pm3 : PermOk K kv3 (kv3 []) := fun g vs ds h => by
  cases h with
  | nil => exact .nil
  | cons a t =>
    cases t with
    | nil => exact .nil
    | cons b t =>
      cases t with
      | nil => exact .nil
      | cons c t =>
        cases t with
        | nil => exact .cons c (.cons b (.cons a .nil))
        | cons _ _ => exact .nil
end
/-! from other promises -/
section
variable {P : Program} {w : World} {K : PySem.W.Frag} {mg : Str → Option Value} {base : Heap} {k n : Nat} {f : Addr} {fd : FuncData} {ps : List Str} {sp sp' : Sp} {T : Addr → Prop}
theorem FnG.of (F : FnOk P w K mg base CX0 k f fd ps sp) (h : ∀ vs H Q E, sp' vs H Q E → sp vs H Q E) : FnG P w K mg base k f fd ps sp' :=
  ⟨fun vs H Q E q => F.len vs H Q E (h _ _ _ _ q), fun A outer s H args us vs Q E _ hr e0 hb r q => F.run A outer s H args us vs Q E hr e0 hb r (h _ _ _ _ q)⟩
theorem FnG.mono {j : Nat} (F : FnG P w K mg base j f fd ps sp) (h : j ≤ k) : FnG P w K mg base k f fd ps sp :=
  ⟨F.len, fun A outer s H args us vs Q E hg hr e0 hb r q => F.run A outer s H args us vs Q E hg (hr.mono h) e0 hb r q⟩
/-- all that stood stands, but tables -/
theorem Post.grow {g H H' : Hp} (p : Pre K T g H) (t : ∀ t, T t → GxR.TabG H' t) (h : ∀ b u, ¬ T b → H b = some u → H' b = some u) : Post K T noY g H g H' :=
  have dm : ∀ q, H' q = none → H q = none := fun q e => by
    cases e2 : H q with
    | none => rfl
    | some u =>
      by_cases z : T q
      · obtain ⟨ps, e3, _⟩ := t q z
        rw [e3] at e
        cases e
      · rw [h q u z e2] at e
        cases e
  ⟨⟨t, p.gT, fun q u e => h q u (fun z => by rw [p.gT q z] at e; cases e) (p.le q u e), p.kn⟩, .refl, dm, fun q u _ e1 z e2 => ⟨h q u z e2, e1⟩⟩
end
end Pv

set_option Elab.async false
set_option linter.all false
set_option maxRecDepth 100000
set_option maxHeartbeats 2000000
namespace Pv
open PySem PySem.Spec PyProof.Rows L2 Lb

/-! ### lists put together, whoever holds them -/
section
variable {X : Cx}
def rCatSL (K : PySem.W.Frag) : R2 := fun x y H Q => ∃ a b xs ys, x = .ref a ∧ y = .ref b ∧ SqL K H a xs ∧ SqL K H b ys ∧ xs.length + ys.length ≤ sizeLine ∧ ∀ p, H p = none → Q (.ref p) (upd H p (.lst (xs ++ ys)))
theorem op_catSL : OpR X (binaryOp .Add) (rCatSL X.K) := by
  intro pins s σ H x y v u Q I rx ry h
  obtain ⟨a, b, xs, ys, rfl, rfl, ha, hb, hz, q⟩ := h
  cases rx
  cases ry
  obtain ⟨its, r, pl, _⟩ := I.list ha
  obtain ⟨its2, r2, pl2, _⟩ := I.list hb
  obtain ⟨⟨cls, dd, data, sl⟩, ho, hc, n, hd⟩ := id pl.isList
  obtain ⟨⟨cls2, dd2, data2, sl2⟩, ho2, hc2, n2, hd2⟩ := id pl2.isList
  simp only at hc hd hc2 hd2
  subst hc hd hc2 hd2
  have l1 := r.length
  have l2 := r2.length
  refine concat_meets ⟨_, ho, rfl⟩ ⟨_, ho2, rfl⟩ noFill_list_add seq_list_add PySem.F.slot_list_add PySem.F.entry_list_add (PySem.F.args_list_add_2 _ _) (list_addW a b its.toArray its2.toArray n n2 dd dd2 sl sl2 (by rw [List.size_toArray, List.size_toArray]; omega)) ⟨ho, ho2, ?_⟩
  have e : its.toArray ++ its2.toArray = (its ++ its2).toArray := by simp
  rw [e]
  exact ⟨.ref _, _, I.lnew (t' := s.toks) (r.append r2) (by rw [List.length_append]; omega), rfl, q _ I.fresh⟩
end
def dCatL (d e : D) : Option (List D) := match d, e with
  | .list xs, .list ys => if xs.length + ys.length ≤ BIG then some (xs ++ ys) else none
  | _, _ => none
def fCatH (f g : FH) : FO := fun r => (f r).bind fun p => (g p.2).bind fun q => (dCatL p.1 q.1).map fun z => (z, q.2)
def fCatB (f g : FP) : FO := fun r => (f r).bind fun x => (g r).bind fun y => (dCatL x y).map fun z => (z, r)
section
variable {X : Cx} {K : PySem.W.Frag} {T : Addr → Prop} {ea eb e : Expr} {ta tb te : TE} {p pos : Pos}
theorem qo_catB {f g : FP} (ha : QB X K T ea ta f) (hb : QB X K T eb tb g) : QO X K T (.BinOp ea .Add eb pos) (tOp (rCatSL K) ta tb) (fCatB f g) := ⟨ha.k, ha.k ▸ pe_op op_catSL ha.pe hb.pe, fun B a zs r' Q o ef k => by
  unfold fCatB at ef
  cases e1 : f a.r with
  | none => rw [e1] at ef; cases ef
  | some x =>
    rw [e1, Option.bind_some] at ef
    cases e2 : g a.r with
    | none => rw [e2] at ef; cases ef
    | some y =>
      rw [e2, Option.bind_some] at ef
      unfold dCatL at ef
      split at ef
      · rename_i xs ys
        split at ef
        · rename_i hz
          cases ef
          refine ha.so B a _ _ o e1 fun v g1 h1 o1 n1 r1 => ?_
          refine hb.so B ⟨g1, h1, a.s, a.r⟩ _ _ o1 e2 fun w g2 h2 o2 n2 r2 => ?_
          have r1' : RepB K ⟨g2, h2, a.s, a.r⟩ v (.list xs) := r1.nxt n2 rfl rfl
          obtain ⟨p, vs, e3, hs, t⟩ := r1'.list o2
          obtain ⟨q, ws, e4, hs2, t2⟩ := r2.list o2
          subst e3 e4
          refine ⟨p, q, vs, ws, rfl, rfl, hs, hs2, by rw [dpa_len t, dpa_len t2]; exact Nat.le_trans hz big_line, fun l hl => ?_⟩
          exact k l _ g2 _ (o2.newH hl) (n1.trans (n2.trans (o2.newH_nxt hl))) (n1.dm l (n2.dm l hl)) upd_same (o2.gn hl) (o2.untied hl) (dpa_app t t2)
        · cases ef
      · cases ef⟩
theorem qo_catH {f g : FH} (ha : QH X K T ea ta f) (hb : QH X K T eb tb g) : QO X K T (.BinOp ea .Add eb pos) (tOp (rCatSL K) ta tb) (fCatH f g) := ⟨ha.k, ha.k ▸ pe_op op_catSL ha.pe hb.pe, fun B a zs r' Q o ef k => by
  unfold fCatH at ef
  cases e1 : f a.r with
  | none => rw [e1] at ef; cases ef
  | some x =>
    obtain ⟨x, r1⟩ := x
    rw [e1, Option.bind_some] at ef
    cases e2 : g r1 with
    | none => simp [e2] at ef
    | some y =>
      obtain ⟨y, r2⟩ := y
      simp only [e2, Option.bind_some] at ef
      unfold dCatL at ef
      split at ef
      · rename_i xs ys
        split at ef
        · rename_i hz
          cases ef
          refine ha.so B a _ _ _ o e1 fun v g1 h1 o1 n1 x1 => ?_
          refine hb.so B ⟨g1, h1, a.s, r1⟩ _ _ _ o1 e2 fun w g2 h2 o2 n2 x2 => ?_
          have y1 : RepB K ⟨g2, h2, a.s, r'⟩ v (.list xs) := .inl (dp_sub n2.le x1)
          have y2 : RepB K ⟨g2, h2, a.s, r'⟩ w (.list ys) := .inl x2
          obtain ⟨p, vs, e3, hs, t⟩ := y1.list o2
          obtain ⟨q, ws, e4, hs2, t2⟩ := y2.list o2
          subst e3 e4
          refine ⟨p, q, vs, ws, rfl, rfl, hs, hs2, by rw [dpa_len t, dpa_len t2]; exact Nat.le_trans hz big_line, fun l hl => ?_⟩
          exact k l _ g2 _ (o2.newH hl) (n1.trans (n2.trans (o2.newH_nxt hl))) (n1.dm l (n2.dm l hl)) upd_same (o2.gn hl) (o2.untied hl) (dpa_app t t2)
        · cases ef
      · cases ef⟩
/-! ### isinstance of two classes -/
def dIsi2 (c c2 : String) (d : D) : Option D := match kitB (tyD d) c with
  | some true => some (.bool true)
  | some false => (kitB (tyD d) c2).map fun b => .bool b
  | none => none
theorem kitAny_two {K : PySem.W.Frag} {t c c2 : String} {b : Bool} (h : (match kitB t c with | some true => some true | some false => kitB t c2 | none => none) = some b) : PySem.W.kitAny K (.type t) [.type c, .type c2] = some b := by
  cases e : kitB t c with
  | none => rw [e] at h; cases h
  | some z =>
    rw [e] at h
    cases z with
    | true =>
      cases h
      exact kitAny_cons (kit_ty e) (fun z => nomatch z) fun _ => rfl
    | false =>
      have h : kitB t c2 = some b := h
      refine kitAny_cons (r := b) (kit_ty e) (fun _ => ?_) fun z => nomatch z
      refine kitAny_cons (b := b) (r := b) (kit_ty h) (fun z => ?_) fun z => z
      rw [z]
      rfl
theorem sp_isi2 (c c2 : String) {f : FP} (ha : SB K T te f) : SP K T (tCB (rIsiT K) (tCons te (tCons (tTup (tCons (tC (.ty c)) (tCons (tC (.ty c2)) tNil))) tNil))) (f1 (dIsi2 c c2) f) := fun B a d Q o ef k => by
  unfold f1 at ef
  cases e1 : f a.r with
  | none => rw [e1] at ef; cases ef
  | some x =>
    rw [e1, Option.bind_some] at ef
    have hb : ∃ b, (match kitB (tyD x) c with | some true => some true | some false => kitB (tyD x) c2 | none => none) = some b ∧ d = .bool b := by
      unfold dIsi2 at ef
      cases e2 : kitB (tyD x) c with
      | none => rw [e2] at ef; cases ef
      | some z =>
        rw [e2] at ef
        cases z with
        | true => exact ⟨true, rfl, (Option.some.inj ef).symm⟩
        | false =>
          have ef : (kitB (tyD x) c2).map (fun b => PyData.bool b) = some d := ef
          cases e3 : kitB (tyD x) c2 with
          | none => rw [e3] at ef; cases ef
          | some b =>
            rw [e3] at ef
            exact ⟨b, rfl, (Option.some.inj ef).symm⟩
    obtain ⟨b, hb, rfl⟩ := hb
    refine ha B a x _ o e1 fun v g1 h1 o1 n1 r1 => ?_
    refine ⟨Nat.le_of_ble_eq_true rfl, fun q hq => ?_⟩
    have o2 := o1.newH (u := .tup [V.ty c, V.ty c2]) hq
    have n2 := o1.newH_nxt (u := .tup [V.ty c, V.ty c2]) hq
    refine ⟨v, q, _, _, _, b, rfl, upd_same, .cons (.ty c) (.cons (.ty c2) .nil), (r1.nxt n2 rfl rfl).ty o2, kitAny_two hb, ?_⟩
    exact k _ g1 _ o2 (n1.trans n2) (.bl _)
theorem qp_isi2 (c c2 : String) {f : FP} {y y2 : Str} {p2 p3 tpos : Pos} {kk : Nat} (hg : Gl X "isinstance") (hm : X.mg "isinstance" = none) (ha : QB X K T e te f) (hg2 : Gl X y) (hm2 : X.mg y = none) (hv2 : bootBuiltins y = some (.type c)) (hg3 : Gl X y2) (hm3 : X.mg y2 = none) (hv3 : bootBuiltins y2 = some (.type c2))
    (hn2 : y ≠ "__name__" := by decide) (hd2 : (y == ("__debug__" : Str)) = false := by decide) (hn3 : y2 ≠ "__name__" := by decide) (hd3 : (y2 == ("__debug__" : Str)) = false := by decide)
    (ht : starEach [.Name y p2, .Name y2 p3] X.env = (false, eval (.Name y p2) X.env) :: starEach [.Name y2 p3] X.env := by rfl) (ht2 : starEach [.Name y2 p3] X.env = (false, eval (.Name y2 p3) X.env) :: starEach [] X.env := by rfl)
    (he : starEach [e, .Tuple [.Name y p2, .Name y2 p3] kk tpos] X.env = (false, eval e X.env) :: starEach [.Tuple [.Name y p2, .Name y2 p3] kk tpos] X.env := by rfl) (he2 : starEach [.Tuple [.Name y p2, .Name y2 p3] kk tpos] X.env = (false, eval (.Tuple [.Name y p2, .Name y2 p3] kk tpos) X.env) :: starEach [] X.env := by rfl) (hpl : (backTo pos (starEach [.Tuple [.Name y p2, .Name y2 p3] kk tpos] X.env)).any (·.1) = false := by rfl) :
    QP X K T (.Call (.Name "isinstance" p) [e, .Tuple [.Name y p2, .Name y2 p3] kk tpos] [] pos) (tCB (rIsiT K) (tCons te (tCons (tTup (tCons (tC (.ty c)) (tCons (tC (.ty c2)) tNil))) tNil))) (f1 (dIsi2 c c2) f) :=
  ⟨ha.k, pe_callB (ha.k ▸ call_isiT) hg hm (by decide +kernel) (pa_cons ha.pe (pa_cons (pe_tup (pa_cons (pe_bltn (v := .ty c) (u := .type c) (pos := p2) hg2 hm2 hv2 rfl hn2 hd2) (pa_cons (pe_bltn (v := .ty c2) (u := .type c2) (pos := p3) hg3 hm3 hv3 rfl hn3 hd3) pa_nil ht2) ht)) pa_nil he2) he) (by decide) (by decide) he hpl, sp_isi2 c c2 ha.so⟩
/-! ### list(range(n)) -/
def dRg1 (d : D) : Option (List D) := match d with
  | .int j => if (isSm j && decide (j.toNat ≤ BIG)) = true then some (rngD 0 j.toNat) else none
  | _ => none
theorem qo_listRg1 {f : FP} {p' pos' : Pos} (hc : X.calm = true) (hg : Gl X "list") (hm : X.mg "list" = none) (hg' : Gl X "range") (hm' : X.mg "range" = none) (ha : QB X K T ea ta f)
    (na : starEach [ea] X.env = (false, eval ea X.env) :: starEach [] X.env := by rfl)
    (nc : starEach [.Call (.Name "range" p') [ea] [] pos'] X.env = (false, eval (.Call (.Name "range" p') [ea] [] pos') X.env) :: starEach [] X.env := by rfl) :
    QO X K T (.Call (.Name "list" p) [.Call (.Name "range" p') [ea] [] pos'] [] pos) (tLstRg (tRg1 ta)) (o1 dRg1 (up f)) := ⟨ha.k, pe_listRg hc hg hm (prg_1 hg' hm' ha.pe na) nc, fun B a zs r' Q o ef k => by
  unfold o1 up at ef
  cases e1 : f a.r with
  | none => simp [e1] at ef
  | some x =>
    simp only [e1, Option.map_some, Option.bind_some] at ef
    unfold dRg1 at ef
    split at ef
    · rename_i j
      split at ef
      · rename_i hh
        cases ef
        refine ha.so B a _ _ o e1 fun v g1 h1 o1 n1 r1 => ?_
        cases r1.int
        simp only [Bool.and_eq_true, decide_eq_true_eq] at hh
        have hh := And.intro (isSm_b hh.1) hh.2
        unfold BIG at hh
        refine ⟨j, rfl, ⟨by decide, by decide, hh.1.1, hh.1.2, by omega⟩, fun q hq => ?_⟩
        have xd := rgV_dpa (K := K) (G := g1) 0 j
        rw [Int.sub_zero] at xd
        exact k q _ g1 _ (o1.newH hq) (n1.trans (o1.newH_nxt hq)) (n1.dm q hq) upd_same (o1.gn hq) (o1.untied hq) xd
      · cases ef
    · cases ef⟩
end
/-! ### a written constant -/
def CGl (mg : Str → Option Value) (K : PySem.W.Frag) (x : Str) (v : V) (d : D) : Prop := ∃ u, mg x = some u ∧ RelV v u ∧ ∀ g, Dp K g v d
theorem qp_gl {X : Cx} {K : PySem.W.Frag} {T : Addr → Prop} {x : Str} {v : V} {d : D} {pos : Pos} (hg : Gl X x) (c : CGl X.mg K x v d) (hdb : (x == ("__debug__" : Str)) = false := by decide) (hk : X.K = K := by rfl) : QP X K T (.Name x pos) (tC v) (fC d) := by
  obtain ⟨u, h1, h2, h3⟩ := c
  exact qp_glob hg h1 h2 h3 hdb hk
end Pv

set_option Elab.async false
set_option linter.all false
set_option maxRecDepth 100000
set_option maxHeartbeats 4000000
namespace Pv
open PySem PySem.Spec PyProof.Rows L2 Lb

/-! ### hand-made judges, told where they say yes -/
def isOrdB (l : List Nat) : Bool := decide (1 ≤ l.length) && decide (l.length ≤ 9) && l.isPerm (List.range' 1 l.length)
def natsI (ns : List Int) : Option (List Nat) := if ns.all (fun i => decide (0 ≤ i)) = true then some (ns.map Int.toNat) else none
def natsD (d : D) : Option (List Nat) := (intsOf d).bind natsI
def p_is_order : List D → Option D
  | [d] => (natsD d).bind fun l => if isOrdB l = true then some (.bool true) else none
  | _ => none
def p_are_within_bounds : List D → Option D
  | [d, .int lo, .int hi] => (natsD d).bind fun l => if l.all (fun k => decide (lo ≤ (k : Int)) && decide ((k : Int) ≤ hi)) = true then some (.bool true) else none
  | _ => none
theorem natsI_eq {ns : List Int} {l : List Nat} (h : natsI ns = some l) : ns = l.map fun k : Nat => (k : Int) := by
  unfold natsI at h
  split at h
  · rename_i c
    cases h
    rw [List.map_map]
    refine (List.map_id ns).symm.trans (List.map_congr_left fun i hi => ?_)
    have := List.all_eq_true.mp c i hi
    simp at this
    show i = ((i.toNat : Nat) : Int)
    omega
  · cases h
end Pv

set_option Elab.async false
set_option linter.all false
set_option maxRecDepth 100000
set_option maxHeartbeats 4000000
namespace Pv
open PySem PySem.Spec L2

def g_is_integer : FS := (gRet (vAnd (up (f1 (dIsi "int") (fVar 0))) (vNot (up (f1 (dIsi "bool") (fVar 0))))))
def p_is_integer : List D → Option D := fnH 1 g_is_integer
def g_is_within_bounds : FS := (gRet (vAnd (fCall 1 p_is_integer (fCons (up (fVar 0)) fNil)) (up (fChain (fun i j => decide (i ≤ j)) (fun i j => decide (i ≤ j)) (fVar 1) (fVar 0) (fVar 2)))))
def p_is_within_bounds : List D → Option D := fnH 3 g_is_within_bounds
def g_is_tuple_of : FS := (gRet (vAnd (up (f1 (dIsi "tuple") (fVar 0))) (up (f2 dEq (f1 dLen (fVar 0)) (fVar 1)))))
def p_is_tuple_of : List D → Option D := fnH 2 g_is_tuple_of
def g_is_pair : FS := (gRet (vAnd (fCall 2 p_is_tuple_of (fCons (up (fVar 0)) (fCons (up (fC (.int 2))) fNil))) (fCall 3 p_are_within_bounds (fCons (up (fVar 0)) (fCons (up (fVar 1)) (fCons (up (fVar 2)) fNil))))))
def p_is_pair : List D → Option D := fnH 3 g_is_pair
def g_check_order : FS := (gIf (fNot (fTst (fCall 1 p_is_order (fCons (up (fVar 0)) fNil)))) (fun _ => none) gNx)
def p_check_order : List D → Option D := fnH 1 g_check_order
def g_check_number : FS := (gIf (fNot (fTst (fCall 3 p_is_within_bounds (fCons (up (fVar 0)) (fCons (up (fVar 1)) (fCons (up (fVar 2)) fNil)))))) (fun _ => none) gNx)
def p_check_number : List D → Option D := fnH 3 g_check_number
def g_check_many : FS := (gExp (fCall 3 p_check_number (fCons (up (fVar 0)) (fCons (up (fC (.int 1))) (fCons (up (fC (.int 9))) fNil)))))
def p_check_many : List D → Option D := fnH 1 g_check_many
def g_check_corner : FS := (gIf (fNot (fTst (fCall 3 p_is_pair (fCons (up (fVar 1)) (fCons (up (fC (.int 1))) (fCons (up (fVar 0)) fNil)))))) (fun _ => none) gNx)
def p_check_corner : List D → Option D := fnH 2 g_check_corner
def g_counted : FS := (gSeq (gExp (fCall 1 p_check_order (fCons (up (fVar 0)) fNil)))
    (gSeq (gExp (fCall 2 p_check_corner (fCons (up (f1 dLen (fVar 0))) (fCons (up (fVar 1)) fNil))))
    (gRet (h1 dLen (upO (fLc (fSeq (up (fCut (fVar 0) ptNone (ptSome (f2 dIx (fVar 1) (fC (.int 0))))))) (sName 2) (fTst (up (f2 dGe (fVar 2) (f2 dIx (fVar 1) (fC (.int 1)))))) (up (fVar 2)) [2]))))))
def p_counted : List D → Option D := fnH 3 g_counted
def g_is_mattering : FS := (gSeq (gAsg (up (fVar 1)) (sTup 2 (sCons (sName 2) (sCons (sName 3) sNil))))
    (gSeq (gIf (fNot (fTst (up (fChain (fun i j => decide (i < j)) (fun i j => decide (i ≤ j)) (f2 dIx (fVar 0) (f2 dSub (fVar 2) (fC (.int 1)))) (fVar 3) (f2 dIx (fVar 0) (fVar 2)))))) (gRet (up (fC (.bool false)))) gNx)
    (gRet (vAnd (up (f2 dIn (fVar 3) (fCut (fVar 0) (ptSome (fVar 2)) ptNone))) (up (f2 dIn (f2 dSub (fVar 3) (fC (.int 1))) (fCut (fVar 0) ptNone (ptSome (fVar 2)))))))))
def p_is_mattering : List D → Option D := fnH 4 g_is_mattering
def g_mattering : FS := (gSeq (gExp (fCall 1 p_check_order (fCons (up (fVar 0)) fNil)))
    (gSeq (gSet 1 (up (f1 dLen (fVar 0))))
    (gSeq (gSet 2 (upO (fLc2 (fRng2 (fCons (up (fC (.int 1))) (fCons (up (fVar 1)) fNil))) (sName 3) fYes (fRng2 (fCons (up (fC (.int 2))) (fCons (up (f2 dAdd (fVar 1) (fC (.int 1)))) fNil))) (sName 4) fYes (fTup (fCons (up (fVar 3)) (fCons (up (fVar 4)) fNil))) [3, 4] [4])))
    (gRetO (fLc (fSeq (up (fVar 2))) (sName 5) (fTst (fCall 2 p_is_mattering (fCons (up (fVar 0)) (fCons (up (fVar 5)) fNil)))) (up (fVar 5)) [5])))))
def p_mattering : List D → Option (List D) := fnO 6 g_mattering
def g_least_count : FS := (gRet (up (f2 dMax2 (fC (.int 0)) (f2 dAdd (f2 dSub (f2 dIx (fVar 0) (fC (.int 0))) (f2 dIx (fVar 0) (fC (.int 1)))) (fC (.int 1))))))
def p_least_count : List D → Option D := fnH 1 g_least_count
def g_least_with : FS := (gSeq (gExp (fCall 1 p_check_many (fCons (up (fVar 0)) fNil)))
    (gSeq (gExp (fCall 2 p_check_corner (fCons (up (fVar 0)) (fCons (up (fVar 1)) fNil))))
    (gSeq (gAsg (up (fVar 1)) (sTup 2 (sCons (sName 3) (sCons (sName 4) sNil))))
    (gSeq (gExp (fCall 3 p_check_number (fCons (up (fVar 2)) (fCons (up (fC (.int 0))) (fCons (up (f2 dMin2 (fVar 3) (f2 dAdd (f2 dSub (fVar 0) (fVar 4)) (fC (.int 1))))) fNil)))))
    (gSeq (gIf (fTst (h2 dLe (up (fVar 2)) (fCall 1 p_least_count (fCons (up (fVar 1)) fNil)))) (gRet (up (fRgT (fC (.int 1)) (f2 dAdd (fVar 0) (fC (.int 1)))))) gNx)
    (gSeq (gSet 5 (upO (fCatO (fRgO (fC (.int 1)) (f2 dAdd (f2 dSub (fVar 3) (fVar 2)) (fC (.int 1)))) (fRgO (fVar 4) (f2 dAdd (fVar 4) (fVar 2))))))
    (gRet (h1 dTup (upO (fCatH (up (fVar 5)) (upO (fLc (fRng2 (fCons (up (fC (.int 1))) (fCons (up (f2 dAdd (fVar 0) (fC (.int 1)))) fNil))) (sName 6) (fTst (up (f2 dNotIn (fVar 6) (fVar 5)))) (up (fVar 6)) [6]))))))))))))
def p_least_with : List D → Option D := fnH 7 g_least_with
def g_in_sizes : FS := (gSeq (gSet 1 (upO (o1 dSort (up (fVar 0)))))
    (gRet (h1 dTup (upO (fLc (fSeq (up (fVar 0))) (sName 2) fYes (up (f2 dAdd (f2 dIdx (fVar 1) (fVar 2)) (fC (.int 1)))) [2])))))
def p_in_sizes : List D → Option D := fnH 3 g_in_sizes
def g_way_at : FS := (gRet (fCall 1 p_in_sizes (fCons (upO (fLc (fSeq (up (fVar 1))) (sName 2) fYes (up (f2 dIx (fVar 0) (fVar 2))) [2])) fNil)))
def p_way_at : List D → Option D := fnH 3 g_way_at
def g_longer_places : FS := (gSeq (gSet 2 (fIf (fTru (fVar 1)) (up (f2 dAdd (f2 dIx (fVar 1) (fNeg (fC (.int 1)))) (fC (.int 1)))) (up (fC (.int 0)))))
    (gRetO (fLc (fRng2 (fCons (up (fVar 2)) (fCons (up (fVar 0)) fNil))) (sName 3) fYes (h2 dCatT (up (fVar 1)) (fTup (fCons (up (fVar 3)) fNil))) [3])))
def p_longer_places : List D → Option (List D) := fnO 4 g_longer_places
def g_standings : FS := (gSeq (gExp (fCall 1 p_check_order (fCons (up (fVar 0)) fNil)))
    (gSeq (gExp (fCall 1 p_check_order (fCons (up (fVar 1)) fNil)))
    (gSeq (gSet 2 (up (f1 dLen (fVar 0))))
    (gSeq (gSet 3 (upO (fLst (fCons (fTup fNil) fNil))))
    (gSeq (gFor (fRng2 (fCons (up (fC (.int 1))) (fCons (up (f2 dAdd (f1 dLen (fVar 1)) (fC (.int 1)))) fNil))) (sName 4) (gSeq (gSet 5 (fCall 1 p_in_sizes (fCons (up (fCut (fVar 1) ptNone (ptSome (fVar 4)))) fNil)))
    (gSeq (gSet 6 (upO (fLc2 (fSeq (up (fVar 3))) (sName 7) fYes (fSeq (upO (fCallO 2 p_longer_places (fCons (up (fVar 2)) (fCons (up (fVar 7)) fNil))))) (sName 8) fYes (up (fVar 8)) [7, 8] [8])))
    (gSet 3 (upO (fLc (fSeq (up (fVar 6))) (sName 8) (fTst (h2 dEq (fCall 2 p_way_at (fCons (up (fVar 0)) (fCons (up (fVar 8)) fNil))) (up (fVar 5)))) (up (fVar 8)) [8]))))))
    (gRet (up (fVar 3))))))))
def p_standings : List D → Option D := fnH 9 g_standings
def g_stands : FS := (gSeq (gSet 2 (fCall 2 p_standings (fCons (up (fVar 0)) (fCons (up (fVar 1)) fNil))))
    (gRet (fIf (fTru (fVar 2)) (up (f2 dIx (fVar 2) (fC (.int 0)))) (up (fC .none)))))
def p_stands : List D → Option D := fnH 3 g_stands
def g_first_standing : FS := (gSeq (gFor (fSeq (up (fVar 1))) (sName 2) (gSeq (gSet 3 (fCall 2 p_stands (fCons (up (fVar 0)) (fCons (up (fVar 2)) fNil))))
    (gIf (fTst (up (f2 dNotN (fVar 3) (fC .none)))) (gRet (fTup (fCons (up (fVar 2)) (fCons (up (fVar 3)) fNil)))) gNx)))
    (gRet (up (fC .none))))
def p_first_standing : List D → Option D := fnH 4 g_first_standing
def g_first_way : FS := (gRet (fCall 2 p_first_standing (fCons (up (fVar 0)) (fCons (up (fC (.tuple [.tuple [.int 4, .int 2, .int 3, .int 1], .tuple [.int 3, .int 5, .int 1, .int 4, .int 2], .tuple [.int 4, .int 2, .int 5, .int 1, .int 3], .tuple [.int 3, .int 5, .int 1, .int 6, .int 2, .int 4]]))) fNil))))
def p_first_way : List D → Option D := fnH 1 g_first_way
def g_is_free : FS := (gRet (h2 dIsN (fCall 1 p_first_way (fCons (up (fVar 0)) fNil)) (up (fC .none))))
def p_is_free : List D → Option D := fnH 1 g_is_free
def g_loose_corner : FS := (gSeq (gSet 1 (upO (fLc (fSeq (upO (fCallO 1 p_mattering (fCons (up (fVar 0)) fNil)))) (sName 2) (fTst (h2 dGt (fCall 2 p_counted (fCons (up (fVar 0)) (fCons (up (fVar 2)) fNil))) (fCall 1 p_least_count (fCons (up (fVar 2)) fNil)))) (up (fVar 2)) [2])))
    (gRet (fIf (fTru (fVar 1)) (up (f2 dIx (fVar 1) (fC (.int 0)))) (up (fC .none)))))
def p_loose_corner : List D → Option D := fnH 3 g_loose_corner
end Pv

set_option Elab.async false
set_option linter.all false
set_option maxRecDepth 100000
set_option maxHeartbeats 4000000
namespace Pv
open PySem PySem.Spec L2

def g_check_orders : FS := (gSeq (gExp (fCall 1 p_check_order (fCons (up (fVar 0)) fNil)))
    (gSeq (gExp (fCall 1 p_check_order (fCons (up (fVar 1)) fNil)))
    (gIf (fTst (up (f2 dNe (f1 dLen (fVar 0)) (f1 dLen (fVar 1))))) (fun _ => none) gNx)))
def p_check_orders : List D → Option D := fnH 2 g_check_orders
def g_swapped : FS := (gSeq (gSetO 3 (o1 seqD (up (fVar 0))))
    (gSeq (gAsg (fTup (fCons (up (f2 dIx (fBor 3) (fVar 2))) (fCons (up (f2 dIx (fBor 3) (fVar 1))) fNil))) (sTup 2 (sCons (sSub 3 (up (fVar 1))) (sCons (sSub 3 (up (fVar 2))) sNil))))
    (gRet (up (f1 dTup (fBor 3))))))
def p_swapped : List D → Option D := fnH 4 g_swapped
def g_wrong_pairs : FS := (gSeq (gExp (fCall 1 p_check_order (fCons (up (fVar 0)) fNil)))
    (gSeq (gSet 1 (up (f1 dLen (fVar 0))))
    (gRetO (fLc2 (fRng1 (fCons (up (fVar 1)) fNil)) (sName 2) fYes (fRng2 (fCons (up (f2 dAdd (fVar 2) (fC (.int 1)))) (fCons (up (fVar 1)) fNil))) (sName 3) (fTst (up (f2 dGt (f2 dIx (fVar 0) (fVar 2)) (f2 dIx (fVar 0) (fVar 3))))) (fTup (fCons (up (fVar 2)) (fCons (up (fVar 3)) fNil))) [2, 3] [3]))))
def p_wrong_pairs : List D → Option (List D) := fnO 4 g_wrong_pairs
def g_level : FS := (gRet (h1 dLen (upO (fCallO 1 p_wrong_pairs (fCons (up (fVar 0)) fNil)))))
def p_level : List D → Option D := fnH 1 g_level
def g_undone : FS := (gSeq (gExp (fCall 1 p_check_order (fCons (up (fVar 0)) fNil)))
    (gRet (h1 dTup (upO (fLc (fRng2 (fCons (up (fC (.int 1))) (fCons (up (f2 dAdd (f1 dLen (fVar 0)) (fC (.int 1)))) fNil))) (sName 1) fYes (up (f2 dAdd (f2 dIdx (fVar 0) (fVar 1)) (fC (.int 1)))) [1])))))
def p_undone : List D → Option D := fnH 2 g_undone
def g_one_behind : FS := (gSeq (gExp (fCall 2 p_check_orders (fCons (up (fVar 0)) (fCons (up (fVar 1)) fNil))))
    (gRet (h1 dTup (upO (fLc (fSeq (up (fVar 1))) (sName 2) fYes (up (f2 dIx (fVar 0) (f2 dSub (fVar 2) (fC (.int 1))))) [2])))))
def p_one_behind : List D → Option D := fnH 3 g_one_behind
def g_falls : FS := (gSeq (gExp (fCall 1 p_check_order (fCons (up (fVar 0)) fNil)))
    (gRetO (fLc (fRng1 (fCons (up (f2 dSub (f1 dLen (fVar 0)) (fC (.int 1)))) fNil)) (sName 1) (fTst (up (f2 dGt (f2 dIx (fVar 0) (fVar 1)) (f2 dIx (fVar 0) (f2 dAdd (fVar 1) (fC (.int 1))))))) (up (fVar 1)) [1])))
def p_falls : List D → Option (List D) := fnO 2 g_falls
def g_is_word : FS := (gSeq (gIf (fNot (fTst (fCall 3 p_is_within_bounds (fCons (up (fVar 1)) (fCons (up (fC (.int 1))) (fCons (up (fC (.int 9))) fNil)))))) (gRet (up (fC (.bool false)))) gNx)
    (gRet (vAnd (fCall 3 p_are_within_bounds (fCons (up (fVar 0)) (fCons (up (fC (.int 1))) (fCons (up (f2 dSub (fVar 1) (fC (.int 1)))) fNil)))) (up (f2 dLe (f1 dLen (fVar 0)) (fC (.int 40)))))))
def p_is_word : List D → Option D := fnH 2 g_is_word
def g_check_word : FS := (gSeq (gExp (fCall 1 p_check_many (fCons (up (fVar 1)) fNil)))
    (gIf (fNot (fTst (fCall 2 p_is_word (fCons (up (fVar 0)) (fCons (up (fVar 1)) fNil))))) (fun _ => none) gNx))
def p_check_word : List D → Option D := fnH 2 g_check_word
def g_word_order : FS := (gSeq (gExp (fCall 2 p_check_word (fCons (up (fVar 0)) (fCons (up (fVar 1)) fNil))))
    (gSeq (gSet 2 (up (fRgT (fC (.int 1)) (f2 dAdd (fVar 1) (fC (.int 1))))))
    (gSeq (gFor (fSeq (up (fVar 0))) (sName 3) (gSet 2 (fCall 3 p_swapped (fCons (up (fVar 2)) (fCons (up (f2 dSub (fVar 3) (fC (.int 1)))) (fCons (up (fVar 3)) fNil))))))
    (gRet (up (fVar 2))))))
def p_word_order : List D → Option D := fnH 4 g_word_order
def g_is_least : FS := (gRet (h2 dEq (fCall 1 p_level (fCons (fCall 2 p_word_order (fCons (up (fVar 0)) (fCons (up (fVar 1)) fNil))) fNil)) (up (f1 dLen (fVar 0)))))
def p_is_least : List D → Option D := fnH 2 g_is_least
def g_a_word : FS := (gSeq (gExp (fCall 1 p_check_order (fCons (up (fVar 0)) fNil)))
    (gSeq (gSet 1 (up (f1 dTup (fVar 0))))
    (gSeq (gSetO 2 (fLst fNil))
    (gSeq (gSet 3 (upO (fCallO 1 p_falls (fCons (up (fVar 1)) fNil))))
    (gSeq (gWh 1000 (fTru (fVar 3)) (gSeq (gExp (fApp 2 (up (f2 dAdd (f2 dIx (fVar 3) (fC (.int 0))) (fC (.int 1))))))
    (gSeq (gSet 1 (fCall 3 p_swapped (fCons (up (fVar 1)) (fCons (up (f2 dIx (fVar 3) (fC (.int 0)))) (fCons (up (f2 dAdd (f2 dIx (fVar 3) (fC (.int 0))) (fC (.int 1)))) fNil)))))
    (gSet 3 (upO (fCallO 1 p_falls (fCons (up (fVar 1)) fNil)))))))
    (gRet (up (f1 dRev (fBor 2)))))))))
def p_a_word : List D → Option D := fnH 4 g_a_word
end Pv

set_option Elab.async false
set_option linter.all false
set_option maxRecDepth 100000
set_option maxHeartbeats 2000000
namespace Pv
open PySem PySem.Spec L2

/-! ### the pure pieces, applied -/
@[simp] theorem fVar_ap (i : Nat) (ρ : Ev) : fVar i ρ = match ρ[i]? with | some (some (.sh d)) => some d | _ => none := rfl
@[simp] theorem fBor_ap (i : Nat) (ρ : Ev) : fBor i ρ = match ρ[i]? with | some (some (.sh d)) => some d | some (some (.ow _ ds)) => some (.list ds) | _ => none := rfl
@[simp] theorem fRel_ap (i : Nat) (ρ : Ev) : fRel i ρ = match ρ[i]? with | some (some (.sh d)) => some (d, ρ) | some (some (.ow true ds)) => some (.list ds, ρ.set i (some (.sh (.list ds)))) | _ => none := rfl
@[simp] theorem fC_ap (d : D) (ρ : Ev) : fC d ρ = some d := rfl
@[simp] theorem f2_ap (fo : D → D → Option D) (f g : FP) (ρ : Ev) : f2 fo f g ρ = (f ρ).bind fun x => (g ρ).bind fun y => fo x y := rfl
@[simp] theorem h2_ap (fo : D → D → Option D) (f g : FH) (ρ : Ev) : h2 fo f g ρ = (f ρ).bind fun p => (g p.2).bind fun q => (fo p.1 q.1).map fun z => (z, q.2) := rfl
@[simp] theorem up_ap (f : FP) (ρ : Ev) : up f ρ = (f ρ).map fun d => (d, ρ) := rfl
@[simp] theorem upO_ap (f : FO) (ρ : Ev) : upO f ρ = (f ρ).map fun p => (.list p.1, p.2) := rfl
@[simp] theorem fNeg_ap (f : FP) (ρ : Ev) : fNeg f ρ = (f ρ).bind fun d => match d with | .int i => some (.int (-i)) | _ => none := rfl
@[simp] theorem fTst_ap (f : FH) (ρ : Ev) : fTst f ρ = (f ρ).bind fun p => match p.1 with | .bool c => some (c, p.2) | _ => none := rfl
@[simp] theorem fNot_ap (f : FT) (ρ : Ev) : fNot f ρ = (f ρ).map fun p => (!p.1, p.2) := rfl
@[simp] theorem fAnd_ap (f g : FT) (ρ : Ev) : fAnd f g ρ = (f ρ).bind fun p => if p.1 = true then g p.2 else some (false, p.2) := rfl
@[simp] theorem fOr_ap (f g : FT) (ρ : Ev) : fOr f g ρ = (f ρ).bind fun p => if p.1 = true then some (true, p.2) else g p.2 := rfl
@[simp] theorem fOf_ap (f : FT) (ρ : Ev) : fOf f ρ = (f ρ).map fun p => (.bool p.1, p.2) := rfl
@[simp] theorem fIf_ap (c : FT) (f g : FH) (ρ : Ev) : fIf c f g ρ = (c ρ).bind fun p => if p.1 = true then f p.2 else g p.2 := rfl
@[simp] theorem fIfO_ap (c : FT) (f g : FO) (ρ : Ev) : fIfO c f g ρ = (c ρ).bind fun p => if p.1 = true then f p.2 else g p.2 := rfl
@[simp] theorem fTru_ap (f : FP) (ρ : Ev) : fTru f ρ = (f ρ).bind fun d => (truD d).map fun c => (c, ρ) := rfl
@[simp] theorem vAnd_ap (f g : FH) (ρ : Ev) : vAnd f g ρ = (f ρ).bind fun p => match p.1 with | .bool true => g p.2 | .bool false => some (.bool false, p.2) | _ => none := rfl
@[simp] theorem vOr_ap (f g : FH) (ρ : Ev) : vOr f g ρ = (f ρ).bind fun p => match p.1 with | .bool true => some (.bool true, p.2) | .bool false => g p.2 | _ => none := rfl
@[simp] theorem vNot_ap (f : FH) (ρ : Ev) : vNot f ρ = (f ρ).bind fun p => match p.1 with | .bool c => some (.bool (!c), p.2) | _ => none := rfl
@[simp] theorem fNil_ap  (ρ : Ev) : fNil ρ = some ([], ρ) := rfl
@[simp] theorem fCons_ap (f : FH) (g : FO) (ρ : Ev) : fCons f g ρ = (f ρ).bind fun p => (g p.2).map fun q => (p.1 :: q.1, q.2) := rfl
@[simp] theorem fTup_ap (g : FO) (ρ : Ev) : fTup g ρ = (g ρ).bind fun p => if p.1.length ≤ BIG then some (.tuple p.1, p.2) else none := rfl
@[simp] theorem fLst_ap (g : FO) (ρ : Ev) : fLst g ρ = (g ρ).bind fun p => if p.1.length ≤ BIG then some p else none := rfl
@[simp] theorem gNx_ap  (r : Ev) : gNx r = some (.nx r) := rfl
@[simp] theorem gSeq_ap (f g : FS) (r : Ev) : gSeq f g r = (f r).bind fun fl => match fl with | .nx r1 => g r1 | o => some o := rfl
@[simp] theorem gIf_ap (c : FT) (f g : FS) (r : Ev) : gIf c f g r = (c r).bind fun p => if p.1 = true then f p.2 else g p.2 := rfl
@[simp] theorem gSet_ap (i : Nat) (f : FH) (r : Ev) : gSet i f r = (f r).bind fun p => (sName i p.1 p.2).map .nx := rfl
@[simp] theorem gSetO_ap (i : Nat) (f : FO) (r : Ev) : gSetO i f r = (f r).bind fun p => if freeB p.2 i = true then some (.nx (p.2.set i (some (.ow true p.1)))) else none := rfl
@[simp] theorem gAsg_ap (f : FH) (g : FG) (r : Ev) : gAsg f g r = (f r).bind fun p => (g p.1 p.2).map .nx := rfl
@[simp] theorem gExp_ap (f : FH) (r : Ev) : gExp f r = (f r).map fun p => .nx p.2 := rfl
@[simp] theorem gRet_ap (f : FH) (r : Ev) : gRet f r = (f r).map fun p => .rt (.sh p.1) p.2 := rfl
@[simp] theorem gRetO_ap (f : FO) (r : Ev) : gRetO f r = (f r).map fun p => .rt (.ow true p.1) p.2 := rfl
@[simp] theorem gRetV_ap (i : Nat) (r : Ev) : gRetV i r = match r[i]? with | some (some (.ow true ds)) => some (.rt (.ow true ds) (r.set i none)) | _ => none := rfl
@[simp] theorem fSeq_ap (f : FH) (r : Ev) : fSeq f r = (f r).bind fun p => (seqD p.1).map fun ds => (ds, p.2) := rfl
@[simp] theorem fRng1_ap (f : FO) (r : Ev) : fRng1 f r = (f r).bind fun p => match p.1 with | [.int j] => if isSm j = true then some (rngD 0 j.toNat, p.2) else none | _ => none := rfl
@[simp] theorem fRng2_ap (f : FO) (r : Ev) : fRng2 f r = (f r).bind fun p => match p.1 with | [.int i, .int j] => if (isSm i && isSm j) = true then some (rngD i (j - i).toNat, p.2) else none | _ => none := rfl
@[simp] theorem fEnum_ap (f : FO) (r : Ev) : fEnum f r = (f r).bind fun p => match p.1 with | [.list ds] => some (enD 0 ds, p.2) | _ => none := rfl
@[simp] theorem fZip_ap (f : FO) (r : Ev) : fZip f r = (f r).bind fun p => match p.1 with | [.list as, .list bs] => some (zipD as bs, p.2) | [.tuple as, .tuple bs] => some (zipD as bs, p.2) | _ => none := rfl
@[simp] theorem gFor_ap (fi : FO) (g : FG) (body : FS) (r : Ev) : gFor fi g body r = (fi r).bind fun p => loopF g body p.1 p.2 := rfl
@[simp] theorem gWh_ap (n : Nat) (c : FT) (body : FS) (r : Ev) : gWh n c body r = whF c body n r := rfl
@[simp] theorem fCall_ap (n : Nat) (f : List D → Option D) (h : FO) (r : Ev) : fCall n f h r = (h r).bind fun p => if p.1.length = n then (f p.1).map fun d => (d, p.2) else none := rfl
@[simp] theorem fCallO_ap (n : Nat) (f : List D → Option (List D)) (h : FO) (r : Ev) : fCallO n f h r = (h r).bind fun p => if p.1.length = n then (f p.1).map fun d => (d, p.2) else none := rfl
@[simp] theorem fCallP_ap (i n : Nat) (f : List D → List D → Option (D × List D)) (h : FO) (r : Ev) : fCallP i n f h r = if isOw r i = true then (h r).bind fun p => if p.1.length = n then ((owOf p.2 i).bind fun z => (f z.2 p.1).map fun q => (q.1, p.2.set i (some (Sl.ow z.1 q.2)))) else none else none := rfl
@[simp] theorem fCallPO_ap (i n : Nat) (f : List D → List D → Option (List D × List D)) (h : FO) (r : Ev) : fCallPO i n f h r = if isOw r i = true then (h r).bind fun p => if p.1.length = n then ((owOf p.2 i).bind fun z => (f z.2 p.1).map fun q => (q.1, p.2.set i (some (Sl.ow z.1 q.2)))) else none else none := rfl
@[simp] theorem fCallE_ap (n : Nat) (f : List D → List D → Option (D × List D)) (e h : FO) (r : Ev) : fCallE n f e h r = (e r).bind fun z => (h z.2).bind fun p => if p.1.length = n then (f z.1 p.1).map fun q => (q.1, p.2) else none := rfl
@[simp] theorem fMapA_ap (gD : List D → List D) (h : FO) (r : Ev) : fMapA gD h r = (h r).map fun p => (gD p.1, p.2) := rfl
@[simp] theorem f1_ap (fo : D → Option D) (f : FP) (r : Ev) : f1 fo f r = (f r).bind fo := rfl
@[simp] theorem h1_ap (fo : D → Option D) (f : FH) (r : Ev) : h1 fo f r = (f r).bind fun p => (fo p.1).map fun z => (z, p.2) := rfl
@[simp] theorem o1_ap (fo : D → Option (List D)) (f : FH) (r : Ev) : o1 fo f r = (f r).bind fun p => (fo p.1).map fun z => (z, p.2) := rfl
@[simp] theorem fChain_ap (p q : Int → Int → Bool) (f g h : FP) (r : Ev) : fChain p q f g h r = (f r).bind fun x => (g r).bind fun y => match x, y with
  | .int i, .int j => if p i j = true then (h r).bind fun z => match z with | .int k => some (.bool (q j k)) | _ => none else some (.bool false)
  | _, _ => none := rfl
@[simp] theorem fCut_ap (f : FP) (l u : FPt) (r : Ev) : fCut f l u r = (f r).bind fun x => (l r).bind fun lo => (u r).bind fun hi => dCut x lo hi := rfl
@[simp] theorem ptNone_ap  (ρ : Ev) : ptNone ρ = some none := rfl
@[simp] theorem ptSome_ap (f : FP) (r : Ev) : ptSome f r = (f r).bind fun d => match d with | .int i => some (some i) | _ => none := rfl
@[simp] theorem fRgO_ap (f g : FP) (r : Ev) : fRgO f g r = (f r).bind fun x => (g r).bind fun y => (dRg2 x y).map fun z => (z, r) := rfl
@[simp] theorem fRgT_ap (f g : FP) (r : Ev) : fRgT f g r = (f r).bind fun x => (g r).bind fun y => (dRg2 x y).map fun z => .tuple z := rfl
@[simp] theorem fRgL_ap (f : FO) (r : Ev) : fRgL f r = (fRng2 f r).bind fun p => if p.1.length ≤ BIG then some p else none := rfl
@[simp] theorem fCatO_ap (f g : FO) (r : Ev) : fCatO f g r = (f r).bind fun p => (g p.2).bind fun q => if p.1.length + q.1.length ≤ BIG then some (p.1 ++ q.1, q.2) else none := rfl
@[simp] theorem fRepO_ap (f : FO) (g : FP) (r : Ev) : fRepO f g r = (f r).bind fun p => (g p.2).bind fun x => match x with | .int k => if (isSm k && decide (p.1.length * k.toNat ≤ BIG)) = true then some ((List.replicate k.toNat p.1).flatten, p.2) else none | _ => none := rfl
@[simp] theorem fCatB_ap (f g : FP) (r : Ev) : fCatB f g r = (f r).bind fun x => (g r).bind fun y => (dCatL x y).map fun z => (z, r) := rfl
@[simp] theorem fCatH_ap (f g : FH) (r : Ev) : fCatH f g r = (f r).bind fun p => (g p.2).bind fun q => (dCatL p.1 q.1).map fun z => (z, q.2) := rfl
@[simp] theorem fApp_ap (i : Nat) (f : FH) (r : Ev) : fApp i f r = if isOw r i = true then (f r).bind fun p => (owOf p.2 i).bind fun z => if z.2.length < BIG then some (.none, p.2.set i (some (Sl.ow z.1 (z.2 ++ [p.1])))) else none else none := rfl
@[simp] theorem fExt_ap (i : Nat) (f : FO) (r : Ev) : fExt i f r = if isOw r i = true then (f r).bind fun p => (owOf p.2 i).bind fun z => if z.2.length + p.1.length ≤ BIG then some (.none, p.2.set i (some (Sl.ow z.1 (z.2 ++ p.1)))) else none else none := rfl
@[simp] theorem fPopAt_ap (i : Nat) (f : FH) (r : Ev) : fPopAt i f r = if isOw r i = true then (f r).bind fun p => match p.1 with
  | .int k => (owOf p.2 i).bind fun z => if isSm k = true then (ixN z.2.length k).bind fun j => (z.2[j]?).map fun y => (y, p.2.set i (some (Sl.ow z.1 (z.2.eraseIdx j)))) else none
  | _ => none else none := rfl
@[simp] theorem fPop_ap (i : Nat) (r : Ev) : fPop i r = (owOf r i).bind fun z => (z.2[z.2.length - 1]?).map fun y => (y, r.set i (some (Sl.ow z.1 z.2.dropLast))) := rfl
@[simp] theorem fClear_ap (i : Nat) (r : Ev) : fClear i r = (owOf r i).map fun z => (.none, r.set i (some (Sl.ow z.1 []))) := rfl
@[simp] theorem gAug_ap (i : Nat) (fo : D → D → Option D) (f : FH) (r : Ev) : gAug i fo f r = match r[i]? with
  | some (some (Sl.sh x)) => (f r).bind fun p => (fo x p.1).bind fun z => (sName i z p.2).map .nx
  | _ => none := rfl
@[simp] theorem gAugS_ap (i : Nat) (fi : FP) (fo : D → D → Option D) (fe : FP) (r : Ev) : gAugS i fi fo fe r = (owOf r i).bind fun z => (fi r).bind fun x => match x with
  | .int k => if 0 ≤ k then (z.2[k.toNat]?).bind fun y => (fe r).bind fun w => (fo y w).bind fun v => (ixN z.2.length k).map fun j => .nx (r.set i (some (Sl.ow z.1 (z.2.set j v)))) else none
  | _ => none := rfl
@[simp] theorem vH_ap (f : FH) (r : Ev) : vH f r = (f r).map fun p => (.sh p.1, p.2) := rfl
@[simp] theorem vO_ap (f : FO) (r : Ev) : vO f r = (f r).map fun p => (.ow true p.1, p.2) := rfl
@[simp] theorem gPar_ap (i j : Nat) (f g : FV) (r : Ev) : gPar i j f g r = (f r).bind fun p => (g p.2).bind fun q => (sSl i p.1 q.2).bind fun r1 => (sSl j q.1 r1).map .nx := rfl
@[simp] theorem gPar3_ap (i j l : Nat) (f g h : FV) (r : Ev) : gPar3 i j l f g h r = (f r).bind fun p => (g p.2).bind fun q => (h q.2).bind fun u => (sSl i p.1 u.2).bind fun r1 => (sSl j q.1 r1).bind fun r2 => (sSl l u.1 r2).map .nx := rfl
@[simp] theorem fYes_ap  (r : Ev) : fYes r = some (true, r) := rfl
@[simp] theorem sName_ap (i : Nat) (d : D) (r : Ev) : sName i d r = if freeB r i = true then some (r.set i (some (.sh d))) else none := rfl
@[simp] theorem sNil_ap  (ds : List D) (r : Ev) : sNil ds r = match ds with | [] => some r | _ => none := rfl
@[simp] theorem sCons_ap (f : FG) (g : FGs) (ds : List D) (r : Ev) : sCons f g ds r = match ds with | d :: ds => (f d r).bind fun r1 => g ds r1 | _ => none := rfl
@[simp] theorem sTup_ap (n : Nat) (g : FGs) (d : D) (r : Ev) : sTup n g d r = match d with | .tuple ds => if ds.length = n then g ds r else none | _ => none := rfl
@[simp] theorem sSub_ap (i : Nat) (f : FH) (d : D) (r : Ev) : sSub i f d r = if isOw r i = true then (f r).bind fun p => match p.1 with
  | .int k => (owOf p.2 i).bind fun z => (ixN z.2.length k).map fun j => p.2.set i (some (Sl.ow z.1 (z.2.set j d)))
  | _ => none else none := rfl

def lcB (g : FG) (ft : FT) (fe : FH) (vs : List Nat) (xs : List D) (r : Ev) : Option (List D × Ev) := if xs.length ≤ BIG then lcF g ft fe vs xs r else none
@[simp] theorem fLc_ap (fi : FO) (g : FG) (ft : FT) (fe : FH) (vs : List Nat) (r : Ev) : fLc fi g ft fe vs r = (fi r).bind fun p => lcB g ft fe vs p.1 p.2 := rfl
def lc2B (g : FG) (ft : FT) (fi1 : FO) (g1 : FG) (ft1 : FT) (fe : FH) (vs vs1 : List Nat) (xs : List D) (r : Ev) : Option (List D × Ev) := (lc2F g ft fi1 g1 ft1 fe vs vs1 xs r).bind fun z => if z.1.length ≤ BIG then some (z.1, z.2) else none
@[simp] theorem fLc2_ap (fi : FO) (g : FG) (ft : FT) (fi1 : FO) (g1 : FG) (ft1 : FT) (fe : FH) (vs vs1 : List Nat) (r : Ev) : fLc2 fi g ft fi1 g1 ft1 fe vs vs1 r = (fi r).bind fun p => lc2B g ft fi1 g1 ft1 fe vs vs1 p.1 p.2 := rfl
@[simp] theorem vr_seqL (ds : List D) : seqD (.list ds) = some ds := rfl
@[simp] theorem vr_seqT (ds : List D) : seqD (.tuple ds) = some ds := rfl
@[simp] theorem vr_add (i j : Int) : dAdd (.int i) (.int j) = some (.int (i + j)) := rfl
@[simp] theorem vr_sub (i j : Int) : dSub (.int i) (.int j) = some (.int (i - j)) := rfl
@[simp] theorem vr_lt (i j : Int) : dLt (.int i) (.int j) = some (.bool (decide (i < j))) := rfl
@[simp] theorem vr_le (i j : Int) : dLe (.int i) (.int j) = some (.bool (decide (i ≤ j))) := rfl
@[simp] theorem vr_gt (i j : Int) : dGt (.int i) (.int j) = some (.bool (decide (j < i))) := rfl
@[simp] theorem vr_ge (i j : Int) : dGe (.int i) (.int j) = some (.bool (decide (j ≤ i))) := rfl
@[simp] theorem vr_max2 (i j : Int) : dMax2 (.int i) (.int j) = some (.int (if j > i then j else i)) := rfl
@[simp] theorem vr_min2 (i j : Int) : dMin2 (.int i) (.int j) = some (.int (if j < i then j else i)) := rfl
@[simp] theorem vr_isN (d : D) : dIsN d .none = some (.bool (isNon d)) := rfl
@[simp] theorem vr_notN (d : D) : dNotN d .none = some (.bool (!isNon d)) := rfl
@[simp] theorem vr_non : isNon .none = true := rfl
@[simp] theorem vr_non1 (i : Int) : isNon (.int i) = false := rfl
@[simp] theorem vr_non2 (b : Bool) : isNon (.bool b) = false := rfl
@[simp] theorem vr_non3 (l : List D) : isNon (.list l) = false := rfl
@[simp] theorem vr_non4 (l : List D) : isNon (.tuple l) = false := rfl
@[simp] theorem vr_lenL (l : List D) : dLen (.list l) = some (.int (l.length : Nat)) := rfl
@[simp] theorem vr_lenT (l : List D) : dLen (.tuple l) = some (.int (l.length : Nat)) := rfl
@[simp] theorem vr_int (i : Int) : dInt (.int i) = some (.int i) := rfl
@[simp] theorem vr_tupL (l : List D) : dTup (.list l) = some (.tuple l) := rfl
@[simp] theorem vr_tupT (l : List D) : dTup (.tuple l) = some (.tuple l) := rfl
@[simp] theorem vr_tru0 : truD .none = some false := rfl
@[simp] theorem vr_tru1 (b : Bool) : truD (.bool b) = some b := rfl
@[simp] theorem vr_tru2 (l : List D) : truD (.list l) = some (!l.isEmpty) := rfl
@[simp] theorem vr_tru3 (l : List D) : truD (.tuple l) = some (!l.isEmpty) := rfl
@[simp] theorem vr_fn1 (n : Nat) (g : FS) (a : D) : fnH (n + 1) g [a] = (g (some (.sh a) :: List.replicate n none)).bind fun fl => match fl with | .rt (.sh d) _ => some d | .nx _ => some .none | _ => none := rfl
end Pv

set_option Elab.async false
set_option linter.all false
set_option maxRecDepth 100000
set_option maxHeartbeats 2000000
namespace Pv
open PySem PySem.Spec L2

/-- a slot of which nothing is known but that it may be stored into -/
def jk (x : Option D) : Option Sl := x.map Sl.sh
@[simp] theorem jk_some (d : D) : jk (some d) = some (.sh d) := rfl
@[simp] theorem jk_none : jk none = none := rfl
@[simp] theorem freeB_succ (a : Option Sl) (r : Ev) (i : Nat) : freeB (a :: r) (i + 1) = freeB r i := by
  unfold freeB
  rw [List.getElem?_cons_succ]
@[simp] theorem freeB_none (r : Ev) : freeB (none :: r) 0 = true := rfl
@[simp] theorem freeB_sh (d : D) (r : Ev) : freeB (some (.sh d) :: r) 0 = true := rfl
@[simp] theorem freeB_owt (ds : List D) (r : Ev) : freeB (some (.ow true ds) :: r) 0 = true := rfl
@[simp] theorem freeB_jk (x : Option D) (r : Ev) : freeB (jk x :: r) 0 = true := by cases x <;> rfl
@[simp] theorem dropS_ap (i : Nat) (r : Ev) : dropS i r = match r[i]? with
  | some (some (.ow false _)) => none
  | _ => some (r.set i none) := rfl
@[simp] theorem isOw_ap (r : Ev) (i : Nat) : isOw r i = match r[i]? with
  | some (some (.ow _ _)) => true
  | _ => false := rfl
@[simp] theorem owOf_ap (r : Ev) (i : Nat) : owOf r i = match r[i]? with
  | some (some (.ow b ds)) => some (b, ds)
  | _ => none := rfl
@[simp] theorem sSl_ap (i : Nat) (x : Sl) (r : Ev) : sSl i x r = if freeB r i = true then some (r.set i (some x)) else none := rfl
@[simp] theorem potOf_ap (r : Ev) : potOf r = match r[0]? with | some (some (Sl.ow false ds)) => some ds | _ => none := rfl
/-! ### comprehensions -/
def stepLc (g : FG) (ft : FT) (fe : FH) (vs : List Nat) (d : D) (r : Ev) : Option (Option D × Ev) :=
  (g d r).bind fun r2 => (ft r2).bind fun p => if p.1 = true then (fe p.2).bind fun q => (wipeS vs q.2).map fun r' => (some q.1, r') else (wipeS vs p.2).map fun r' => (none, r')
@[simp] theorem wipeS_nil (r : Ev) : wipeS [] r = some r := rfl
@[simp] theorem wipeS_cons (v : Nat) (vs : List Nat) (r : Ev) : wipeS (v :: vs) r = (wipeS vs r).bind (dropS v) := rfl
theorem lcF_cons (g : FG) (ft : FT) (fe : FH) (vs : List Nat) (x : D) (xs : List D) {r r1 : Ev} (hw : wipeS vs r = some r1) : lcF g ft fe vs (x :: xs) r = (g x r1).bind fun r2 => (ft r2).bind fun p => if p.1 = true then (fe p.2).bind fun q => (lcF g ft fe vs xs q.2).map fun z => (q.1 :: z.1, z.2) else lcF g ft fe vs xs p.2 := by
  show ((wipeS vs r).bind _) = _
  rw [hw, Option.bind_some]
theorem lcF_wipe (g : FG) (ft : FT) (fe : FH) (vs : List Nat) : ∀ (xs : List D) {r r1 : Ev}, wipeS vs r = some r1 → wipeS vs r1 = some r1 → lcF g ft fe vs xs r = lcF g ft fe vs xs r1
  | [], r, r1, h, h1 => by
    show (wipeS vs r).map _ = (wipeS vs r1).map _
    rw [h, h1]
  | x :: xs, r, r1, h, h1 => by rw [lcF_cons g ft fe vs x xs h, lcF_cons g ft fe vs x xs h1]
theorem lc_inv {g : FG} {ft : FT} {fe : FH} {vs : List Nat} (I : Nat → List D → Ev → Prop) : ∀ (xs : List D) {r : Ev} (n : Nat) (acc : List D), wipeS vs r = some r → I n acc r →
    (∀ i d zs r, xs[i]? = some d → wipeS vs r = some r → I (n + i) zs r → ∃ o r', stepLc g ft fe vs d r = some (o, r') ∧ wipeS vs r' = some r' ∧ I (n + i + 1) (zs ++ o.toList) r') →
    ∃ zs r', lcF g ft fe vs xs r = some (zs, r') ∧ I (n + xs.length) (acc ++ zs) r'
  | [], r, n, acc, hw, h0, _ => ⟨[], r, by show (wipeS vs r).map _ = _; rw [hw]; rfl, by rw [List.append_nil]; exact h0⟩
  | x :: xs, r, n, acc, hw, h0, st => by
    obtain ⟨o, r', e, hw', h1⟩ := st 0 x acc r rfl hw h0
    obtain ⟨zs, r2, e2, h2⟩ := lc_inv I xs (n + 1) (acc ++ o.toList) hw' h1 fun i d zs r hd hwr hI => by
      have := st (i + 1) d zs r hd hwr (by rw [show n + (i + 1) = n + 1 + i by omega]; exact hI)
      rw [show n + (i + 1) = n + 1 + i by omega] at this
      exact this
    refine ⟨o.toList ++ zs, r2, ?_, by rw [← List.append_assoc, List.length_cons, show n + (xs.length + 1) = n + 1 + xs.length by omega]; exact h2⟩
    rw [lcF_cons g ft fe vs x xs hw]
    unfold stepLc at e
    cases e1 : g x r with
    | none => rw [e1] at e; cases e
    | some ra =>
      rw [e1, Option.bind_some] at e
      rw [Option.bind_some]
      cases e3 : ft ra with
      | none => rw [e3] at e; cases e
      | some p =>
        obtain ⟨c, rb⟩ := p
        rw [e3, Option.bind_some] at e
        rw [Option.bind_some]
        cases c with
        | true =>
          rw [if_pos rfl] at e ⊢
          cases e4 : fe rb with
          | none => rw [e4] at e; cases e
          | some q =>
            obtain ⟨z, rc⟩ := q
            rw [e4, Option.bind_some] at e
            rw [Option.bind_some]
            cases e5 : wipeS vs rc with
            | none => simp only [e5] at e; cases e
            | some rd =>
              simp only [e5, Option.map_some, Option.some.injEq, Prod.mk.injEq] at e
              obtain ⟨rfl, rfl⟩ := e
              show (lcF g ft fe vs xs rc).map _ = _
              rw [lcF_wipe g ft fe vs xs e5 hw', e2]
              rfl
        | false =>
          rw [if_neg Bool.false_ne_true] at e ⊢
          cases e5 : wipeS vs rb with
          | none => simp only [e5] at e; cases e
          | some rd =>
            simp only [e5, Option.map_some, Option.some.injEq, Prod.mk.injEq] at e
            obtain ⟨rfl, rfl⟩ := e
            show lcF g ft fe vs xs rb = _
            rw [lcF_wipe g ft fe vs xs e5 hw', e2]
            rfl
theorem lc_eq {g : FG} {ft : FT} {fe : FH} {vs : List Nat} {α : Type} (ι : α → D) (φ : α → Option D) {r : Ev} (ys : List α) (hw : wipeS vs r = some r) (h : ∀ y ∈ ys, stepLc g ft fe vs (ι y) r = some (φ y, r)) : lcF g ft fe vs (ys.map ι) r = some (ys.filterMap φ, r) := by
  obtain ⟨zs, r', e, h1, h2⟩ := lc_inv (g := g) (ft := ft) (fe := fe) (vs := vs) (fun i zs r' => r' = r ∧ zs = (ys.take i).filterMap φ) (ys.map ι) (r := r) 0 [] hw ⟨rfl, by simp⟩ fun i d zs r0 hd hw0 hI => by
    obtain ⟨rfl, rfl⟩ := hI
    rw [List.getElem?_map] at hd
    obtain ⟨y, hy, rfl⟩ := Option.map_eq_some_iff.mp hd
    refine ⟨φ y, r0, h y (List.mem_of_getElem? hy), hw, rfl, ?_⟩
    simp only [Nat.zero_add]
    rw [List.take_succ, hy, List.filterMap_append]
    cases e : φ y <;> simp [e]
  rw [e, h1]
  rw [List.nil_append, Nat.zero_add, List.length_map, List.take_length] at h2
  rw [h2]
theorem lc_map {g : FG} {ft : FT} {fe : FH} {vs : List Nat} {α : Type} (ι : α → D) (φ : α → D) {r : Ev} (ys : List α) (hw : wipeS vs r = some r) (h : ∀ y ∈ ys, stepLc g ft fe vs (ι y) r = some (some (φ y), r)) : lcF g ft fe vs (ys.map ι) r = some (ys.map φ, r) := by
  rw [lc_eq ι (fun y => some (φ y)) ys hw h, List.filterMap_eq_map']
theorem lc_filter {g : FG} {ft : FT} {fe : FH} {vs : List Nat} {α : Type} (ι : α → D) (c : α → Bool) (φ : α → D) {r : Ev} (ys : List α) (hw : wipeS vs r = some r) (h : ∀ y ∈ ys, stepLc g ft fe vs (ι y) r = some (if c y = true then some (φ y) else none, r)) : lcF g ft fe vs (ys.map ι) r = some ((ys.filter c).map φ, r) := by
  rw [lc_eq ι (fun y => if c y = true then some (φ y) else none) ys hw h, ← List.filterMap_eq_map', List.filterMap_filter]
section
variable {g : FG} {ft : FT} {fe : FH} {vs : List Nat} {α : Type} {r : Ev}
theorem lcB_eq {xs : List D} (ι : α → D) (φ : α → Option D) (ys : List α) (hx : xs = ys.map ι) (hs : ys.length ≤ 1000000) (hw : wipeS vs r = some r) (h : ∀ y ∈ ys, stepLc g ft fe vs (ι y) r = some (φ y, r)) : lcB g ft fe vs xs r = some (ys.filterMap φ, r) := by
  subst hx
  unfold lcB
  rw [if_pos (by rw [List.length_map]; exact hs), lc_eq ι φ ys hw h]
theorem lcB_map {xs : List D} (ι : α → D) (φ : α → D) (ys : List α) (hx : xs = ys.map ι) (hs : ys.length ≤ 1000000) (hw : wipeS vs r = some r) (h : ∀ y ∈ ys, stepLc g ft fe vs (ι y) r = some (some (φ y), r)) : lcB g ft fe vs xs r = some (ys.map φ, r) := by
  subst hx
  unfold lcB
  rw [if_pos (by rw [List.length_map]; exact hs), lc_map ι φ ys hw h]
theorem lcB_filter {xs : List D} (ι : α → D) (c : α → Bool) (φ : α → D) (ys : List α) (hx : xs = ys.map ι) (hs : ys.length ≤ 1000000) (hw : wipeS vs r = some r) (h : ∀ y ∈ ys, stepLc g ft fe vs (ι y) r = some (if c y = true then some (φ y) else none, r)) : lcB g ft fe vs xs r = some ((ys.filter c).map φ, r) := by
  subst hx
  unfold lcB
  rw [if_pos (by rw [List.length_map]; exact hs), lc_filter ι c φ ys hw h]
/-- the pot, or another slot, changes on the way -/
theorem lcB_inv (I : Nat → List D → Ev → Prop) (xs : List D) (hs : xs.length ≤ 1000000) (hw : wipeS vs r = some r) (h0 : I 0 [] r)
    (st : ∀ i d zs r, xs[i]? = some d → wipeS vs r = some r → I i zs r → ∃ o r', stepLc g ft fe vs d r = some (o, r') ∧ wipeS vs r' = some r' ∧ I (i + 1) (zs ++ o.toList) r') :
    ∃ zs r', lcB g ft fe vs xs r = some (zs, r') ∧ I xs.length zs r' := by
  obtain ⟨zs, r', e, h⟩ := lc_inv (g := g) (ft := ft) (fe := fe) (vs := vs) I xs 0 [] hw h0 fun i d zs r hd hw hI => by
    rw [Nat.zero_add] at hI ⊢
    exact st i d zs r hd hw hI
  rw [Nat.zero_add, List.nil_append] at h
  refine ⟨zs, r', ?_, h⟩
  unfold lcB
  rw [if_pos (show xs.length ≤ BIG from hs), e]
end
section
variable {g : FG} {ft : FT} {fe : FH} {vs : List Nat} {α : Type} {r : Ev}
theorem lcF_map {xs : List D} (ι : α → D) (φ : α → D) (ys : List α) (hx : xs = ys.map ι) (hw : wipeS vs r = some r) (h : ∀ y ∈ ys, stepLc g ft fe vs (ι y) r = some (some (φ y), r)) : lcF g ft fe vs xs r = some (ys.map φ, r) := by
  subst hx
  exact lc_map ι φ ys hw h
theorem lcF_filter {xs : List D} (ι : α → D) (c : α → Bool) (φ : α → D) (ys : List α) (hx : xs = ys.map ι) (hw : wipeS vs r = some r) (h : ∀ y ∈ ys, stepLc g ft fe vs (ι y) r = some (if c y = true then some (φ y) else none, r)) : lcF g ft fe vs xs r = some ((ys.filter c).map φ, r) := by
  subst hx
  exact lc_filter ι c φ ys hw h
end
/-! two clauses -/
def stepO (g : FG) (ft : FT) (fi1 : FO) (g1 : FG) (ft1 : FT) (fe : FH) (vs vs1 : List Nat) (d : D) (r : Ev) : Option (List D × Ev) :=
  (g d r).bind fun r2 => (ft r2).bind fun p => if p.1 = true then (fi1 p.2).bind fun q => (lcF g1 ft1 fe vs1 q.1 q.2).bind fun z => (wipeS vs z.2).map fun r' => (z.1, r') else (wipeS vs p.2).map fun r' => ([], r')
section
variable {g g1 : FG} {ft ft1 : FT} {fi1 : FO} {fe : FH} {vs vs1 : List Nat}
theorem lc2F_cons (x : D) (xs : List D) {r r1 : Ev} (hw : wipeS vs r = some r1) : lc2F g ft fi1 g1 ft1 fe vs vs1 (x :: xs) r = (g x r1).bind fun r2 => (ft r2).bind fun p => if p.1 = true then (fi1 p.2).bind fun q => (lcF g1 ft1 fe vs1 q.1 q.2).bind fun z => (lc2F g ft fi1 g1 ft1 fe vs vs1 xs z.2).map fun u => (z.1 ++ u.1, u.2) else lc2F g ft fi1 g1 ft1 fe vs vs1 xs p.2 := by
  show ((wipeS vs r).bind _) = _
  rw [hw, Option.bind_some]
theorem lc2F_wipe : ∀ (xs : List D) {r r1 : Ev}, wipeS vs r = some r1 → wipeS vs r1 = some r1 → lc2F g ft fi1 g1 ft1 fe vs vs1 xs r = lc2F g ft fi1 g1 ft1 fe vs vs1 xs r1
  | [], r, r1, h, h1 => by
    show (wipeS vs r).map _ = (wipeS vs r1).map _
    rw [h, h1]
  | x :: xs, r, r1, h, h1 => by rw [lc2F_cons x xs h, lc2F_cons x xs h1]
theorem lc2_eq {α : Type} (ι : α → D) (ψ : α → List D) {r : Ev} (hw : wipeS vs r = some r) : ∀ ys : List α, (∀ y ∈ ys, stepO g ft fi1 g1 ft1 fe vs vs1 (ι y) r = some (ψ y, r)) → lc2F g ft fi1 g1 ft1 fe vs vs1 (ys.map ι) r = some (ys.flatMap ψ, r)
  | [], _ => by
    show (wipeS vs r).map _ = _
    rw [hw]
    rfl
  | y :: ys, h => by
    have ih := lc2_eq ι ψ hw ys fun z hz => h z (.tail _ hz)
    have e := h y (.head _)
    rw [List.map_cons, lc2F_cons _ _ hw, List.flatMap_cons]
    unfold stepO at e
    cases e1 : g (ι y) r with
    | none => rw [e1] at e; cases e
    | some ra =>
      rw [e1, Option.bind_some] at e
      rw [Option.bind_some]
      cases e3 : ft ra with
      | none => rw [e3] at e; cases e
      | some p =>
        obtain ⟨c, rb⟩ := p
        rw [e3, Option.bind_some] at e
        rw [Option.bind_some]
        cases c with
        | true =>
          rw [if_pos rfl] at e ⊢
          cases e4 : fi1 rb with
          | none => rw [e4] at e; cases e
          | some q =>
            obtain ⟨ks, rc⟩ := q
            rw [e4, Option.bind_some] at e
            rw [Option.bind_some]
            cases e5 : lcF g1 ft1 fe vs1 ks rc with
            | none => simp only [e5] at e; cases e
            | some z =>
              obtain ⟨zs, rd⟩ := z
              simp only [e5, Option.bind_some] at e
              cases e6 : wipeS vs rd with
              | none => simp only [e6] at e; cases e
              | some rf =>
                simp only [e6, Option.map_some, Option.some.injEq, Prod.mk.injEq] at e
                obtain ⟨rfl, rfl⟩ := e
                rw [Option.bind_some]
                show (lc2F g ft fi1 g1 ft1 fe vs vs1 (ys.map ι) rd).map _ = _
                rw [lc2F_wipe _ e6 hw, ih]
                rfl
        | false =>
          rw [if_neg Bool.false_ne_true] at e ⊢
          cases e5 : wipeS vs rb with
          | none => simp only [e5] at e; cases e
          | some rd =>
            simp only [e5, Option.map_some, Option.some.injEq, Prod.mk.injEq] at e
            obtain ⟨e6, rfl⟩ := e
            show lc2F g ft fi1 g1 ft1 fe vs vs1 (ys.map ι) rb = _
            rw [lc2F_wipe _ e5 hw, ih, ← e6]
            rfl
theorem lc2B_eq {α : Type} {xs : List D} {r : Ev} (ι : α → D) (ψ : α → List D) (ys : List α) (hx : xs = ys.map ι) (hs : (ys.flatMap ψ).length ≤ 1000000) (hw : wipeS vs r = some r) (h : ∀ y ∈ ys, stepO g ft fi1 g1 ft1 fe vs vs1 (ι y) r = some (ψ y, r)) : lc2B g ft fi1 g1 ft1 fe vs vs1 xs r = some (ys.flatMap ψ, r) := by
  subst hx
  unfold lc2B
  rw [lc2_eq ι ψ hw ys h, Option.bind_some, if_pos (show _ ≤ BIG from hs)]
end
/-! ### loops -/
def stepF (g : FG) (body : FS) (d : D) (r : Ev) : Option Fl := (g d r).bind body
theorem loopF_cons (g : FG) (body : FS) (x : D) (xs : List D) (r : Ev) : loopF g body (x :: xs) r = (stepF g body x r).bind fun fl => match fl with
    | .nx r2 => loopF g body xs r2
    | .ct r2 => loopF g body xs r2
    | .bk r2 => some (.nx r2)
    | .rt v r2 => some (.rt v r2) := by
  unfold stepF
  rw [Option.bind_assoc]
  rfl
theorem loop_nx {g : FG} {body : FS} (I : Nat → Ev → Prop) : ∀ (xs : List D) {r : Ev} (n : Nat), I n r → (∀ i d r, xs[i]? = some d → I (n + i) r → ∃ r', stepF g body d r = some (.nx r') ∧ I (n + i + 1) r') → ∃ r', loopF g body xs r = some (.nx r') ∧ I (n + xs.length) r'
  | [], r, n, h0, _ => ⟨r, rfl, h0⟩
  | x :: xs, r, n, h0, st => by
    obtain ⟨r', e, h1⟩ := st 0 x r rfl h0
    obtain ⟨r2, e2, h2⟩ := loop_nx I xs (n + 1) h1 fun i d r hd hI => by
      have := st (i + 1) d r hd (by rw [show n + (i + 1) = n + 1 + i by omega]; exact hI)
      rw [show n + (i + 1) = n + 1 + i by omega] at this
      exact this
    refine ⟨r2, ?_, by rw [List.length_cons, show n + (xs.length + 1) = n + 1 + xs.length by omega]; exact h2⟩
    rw [loopF_cons, e]
    exact e2
/-- a loop that may return -/
theorem loop_rt {g : FG} {body : FS} (I : Nat → Ev → Prop) (R : Sl → Ev → Prop) : ∀ (xs : List D) {r : Ev} (n : Nat), I n r → (∀ i d r, xs[i]? = some d → I (n + i) r → (∃ r', stepF g body d r = some (.nx r') ∧ I (n + i + 1) r') ∨ ∃ v r', stepF g body d r = some (.rt v r') ∧ R v r') →
    (∃ r', loopF g body xs r = some (.nx r') ∧ I (n + xs.length) r') ∨ ∃ v r', loopF g body xs r = some (.rt v r') ∧ R v r'
  | [], r, n, h0, _ => .inl ⟨r, rfl, h0⟩
  | x :: xs, r, n, h0, st => by
    rcases st 0 x r rfl h0 with ⟨r', e, h1⟩ | ⟨v, r', e, h1⟩
    · rcases loop_rt I R xs (n + 1) h1 fun i d r hd hI => by
        have := st (i + 1) d r hd (by rw [show n + (i + 1) = n + 1 + i by omega]; exact hI)
        rw [show n + (i + 1) = n + 1 + i by omega] at this
        exact this with ⟨r2, e2, h2⟩ | ⟨v, r2, e2, h2⟩
      · refine .inl ⟨r2, ?_, by rw [List.length_cons, show n + (xs.length + 1) = n + 1 + xs.length by omega]; exact h2⟩
        rw [loopF_cons, e]
        exact e2
      · refine .inr ⟨v, r2, ?_, h2⟩
        rw [loopF_cons, e]
        exact e2
    · refine .inr ⟨v, r', ?_, h1⟩
      rw [loopF_cons, e]
      rfl
theorem loop_bind {β : Type} {g : FG} {body : FS} {xs : List D} {r : Ev} {K : Fl → Option β} {X : Option β} (I : Nat → Ev → Prop) (hI : I 0 r)
    (step : ∀ i d r, xs[i]? = some d → I i r → ∃ r', stepF g body d r = some (.nx r') ∧ I (i + 1) r') (fin : ∀ r', I xs.length r' → K (.nx r') = X) : (loopF g body xs r).bind K = X := by
  obtain ⟨r', e, h⟩ := loop_nx (g := g) (body := body) I xs 0 hI fun i d r hd h => by
    rw [Nat.zero_add] at h ⊢
    exact step i d r hd h
  rw [Nat.zero_add] at h
  rw [e]
  exact fin r' h
theorem loop_bindR {β : Type} {g : FG} {body : FS} {xs : List D} {r : Ev} {K : Fl → Option β} {X : Option β} (I : Nat → Ev → Prop) (hI : I 0 r)
    (step : ∀ i d r, xs[i]? = some d → I i r → (∃ r', stepF g body d r = some (.nx r') ∧ I (i + 1) r') ∨ ∃ v r', stepF g body d r = some (.rt v r') ∧ K (.rt v r') = X) (fin : ∀ r', I xs.length r' → K (.nx r') = X) : (loopF g body xs r).bind K = X := by
  rcases loop_rt (g := g) (body := body) I (fun v r' => K (.rt v r') = X) xs 0 hI fun i d r hd h => by
    rw [Nat.zero_add] at h ⊢
    exact step i d r hd h with ⟨r', e, h⟩ | ⟨v, r', e, h⟩
  · rw [Nat.zero_add] at h
    rw [e]
    exact fin r' h
  · rw [e]
    exact h
theorem loop_of {g : FG} {body : FS} {xs : List D} {r : Ev} {L : Option Fl} (hL : loopF g body xs r = L) (I : Nat → Ev → Prop) (hI : I 0 r)
    (step : ∀ i d r, xs[i]? = some d → I i r → ∃ r', stepF g body d r = some (.nx r') ∧ I (i + 1) r') : ∃ r', L = some (.nx r') ∧ I xs.length r' := by
  obtain ⟨r', e, h⟩ := loop_nx (g := g) (body := body) I xs 0 hI fun i d r hd h => by
    rw [Nat.zero_add] at h ⊢
    exact step i d r hd h
  rw [Nat.zero_add] at h
  exact ⟨r', by rw [← hL, e], h⟩
theorem loop_ofR {g : FG} {body : FS} {xs : List D} {r : Ev} {L : Option Fl} (hL : loopF g body xs r = L) (I : Nat → Ev → Prop) (R : Sl → Ev → Prop) (hI : I 0 r)
    (step : ∀ i d r, xs[i]? = some d → I i r → (∃ r', stepF g body d r = some (.nx r') ∧ I (i + 1) r') ∨ ∃ v r', stepF g body d r = some (.rt v r') ∧ R v r') : (∃ r', L = some (.nx r') ∧ I xs.length r') ∨ ∃ v r', L = some (.rt v r') ∧ R v r' := by
  rcases loop_rt (g := g) (body := body) I R xs 0 hI fun i d r hd h => by
    rw [Nat.zero_add] at h ⊢
    exact step i d r hd h with ⟨r', e, h⟩ | ⟨v, r', e, h⟩
  · rw [Nat.zero_add] at h
    exact .inl ⟨r', by rw [← hL, e], h⟩
  · exact .inr ⟨v, r', by rw [← hL, e], h⟩
theorem lcB_of {g : FG} {ft : FT} {fe : FH} {vs : List Nat} {xs : List D} {r : Ev} {L : Option (List D × Ev)} (hL : lcB g ft fe vs xs r = L) (I : Nat → List D → Ev → Prop) (hs : xs.length ≤ 1000000) (hw : wipeS vs r = some r) (h0 : I 0 [] r)
    (st : ∀ i d zs r, xs[i]? = some d → wipeS vs r = some r → I i zs r → ∃ o r', stepLc g ft fe vs d r = some (o, r') ∧ wipeS vs r' = some r' ∧ I (i + 1) (zs ++ o.toList) r') : ∃ zs r', L = some (zs, r') ∧ I xs.length zs r' := by
  obtain ⟨zs, r', e, h⟩ := lcB_inv (g := g) (ft := ft) (fe := fe) I xs hs hw h0 st
  exact ⟨zs, r', by rw [← hL, e], h⟩
end Pv

set_option Elab.async false
set_option linter.all false
set_option maxRecDepth 100000
set_option maxHeartbeats 1000000
namespace Pv
open PySem PySem.Spec L2

/-! ### numbers, rows of numbers as data -/
abbrev nI (k : Nat) : D := .int (k : Int)
def dN (o : List Nat) : List D := o.map nI
abbrev tD (o : List Nat) : D := .tuple (dN o)
abbrev lD (o : List Nat) : D := .list (dN o)
def Sqd (d : D) (o : List Nat) : Prop := d = lD o ∨ d = tD o
theorem Sqd.t (o : List Nat) : Sqd (tD o) o := .inr rfl
theorem Sqd.l (o : List Nat) : Sqd (lD o) o := .inl rfl
@[simp] theorem dN_len (o : List Nat) : (dN o).length = o.length := by simp [dN]
@[simp] theorem dN_nil : dN [] = [] := rfl
@[simp] theorem dN_cons (k : Nat) (o : List Nat) : dN (k :: o) = nI k :: dN o := rfl
theorem dN_app (a b : List Nat) : dN (a ++ b) = dN a ++ dN b := List.map_append
@[simp] theorem dN_cat (a b : List Nat) : dN a ++ dN b = dN (a ++ b) := (dN_app a b).symm
theorem dN_take (o : List Nat) (n : Nat) : (dN o).take n = dN (o.take n) := by simp [dN, List.map_take]
theorem dN_drop (o : List Nat) (n : Nat) : (dN o).drop n = dN (o.drop n) := by simp [dN, List.map_drop]
theorem dN_rev (o : List Nat) : (dN o).reverse = dN o.reverse := by simp [dN]
theorem map_eraseIdx {α β : Type} (f : α → β) : ∀ (l : List α) (n : Nat), (l.map f).eraseIdx n = (l.eraseIdx n).map f
  | [], _ => rfl
  | _ :: _, 0 => rfl
  | a :: l, n + 1 => by rw [List.map_cons, List.eraseIdx_cons_succ, List.eraseIdx_cons_succ, map_eraseIdx f l n, List.map_cons]
theorem dN_erase (o : List Nat) (n : Nat) : (dN o).eraseIdx n = dN (o.eraseIdx n) := map_eraseIdx _ _ _
theorem dN_set (o : List Nat) (n k : Nat) : (dN o).set n (nI k) = dN (o.set n k) := by simp [dN, List.map_set]
theorem dN_get (o : List Nat) (i : Nat) : (dN o)[i]? = (o[i]?).map nI := by simp [dN]
@[simp] theorem map_nI (l : List Nat) : l.map nI = dN l := rfl
@[simp] theorem map_nI' {α : Type} (f : α → Nat) (l : List α) : l.map (fun x => nI (f x)) = dN (l.map f) := by
  unfold dN
  rw [List.map_map]
  rfl
@[simp] theorem dN_eq_nil (l : List Nat) : dN l = [] ↔ l = [] := by
  unfold dN
  exact List.map_eq_nil_iff
@[simp] theorem dN_isEmpty (l : List Nat) : (dN l).isEmpty = l.isEmpty := by cases l <;> rfl
@[simp] theorem dN_snoc (l : List Nat) (p : Nat) : dN l ++ [nI p] = dN (l ++ [p]) := (dN_app l [p]).symm
theorem intsD_dN (o : List Nat) : intsD (dN o) = some (o.map fun k : Nat => (k : Int)) := by
  have := intsD_map (o.map fun k : Nat => (k : Int))
  rw [List.map_map] at this
  exact this
theorem natsI_cast (o : List Nat) : natsI (o.map fun k : Nat => (k : Int)) = some o := by
  unfold natsI
  rw [if_pos (by simp), List.map_map]
  simp [Function.comp_def]
theorem seqD_sq {d : D} {o : List Nat} (h : Sqd d o) : seqD d = some (dN o) := by rcases h with rfl | rfl <;> rfl
theorem intsOf_sq {d : D} {o : List Nat} (h : Sqd d o) : intsOf d = some (o.map fun k : Nat => (k : Int)) := by
  unfold intsOf
  rw [seqD_sq h]
  exact intsD_dN o
theorem natsD_sq {d : D} {o : List Nat} (h : Sqd d o) : natsD d = some o := by
  unfold natsD
  rw [intsOf_sq h, Option.bind_some, natsI_cast]
theorem dLen_sq {d : D} {o : List Nat} (h : Sqd d o) : dLen d = some (nI o.length) := by
  unfold dLen
  rw [seqD_sq h, Option.map_some, dN_len]
theorem ixN_nat' {n k : Nat} (h : k < n) : ixN n (k : Int) = some k := by
  unfold ixN
  rw [if_pos (by omega), if_pos (by omega), Int.toNat_natCast]
theorem ixN_last {n : Nat} (h : 0 < n) : ixN n (-1) = some (n - 1) := by
  unfold ixN
  rw [if_neg (by omega), if_pos (by omega)]
  congr 1
  omega
theorem get_getD {o : List Nat} {i : Nat} (h : i < o.length) : o[i]? = some (o.getD i 0) := by
  rw [List.getElem?_eq_getElem h, List.getD_eq_getElem?_getD, List.getElem?_eq_getElem h]
  rfl
theorem dIx_sq {d : D} {o : List Nat} {i : Nat} (h : Sqd d o) (hi : i < o.length) : dIx d (nI i) = some (nI (o.getD i 0)) := by
  show (seqD d).bind (fun ds => atI ds (i : Int)) = _
  rw [seqD_sq h, Option.bind_some]
  unfold atI
  rw [dN_len, ixN_nat' hi, Option.bind_some, dN_get, get_getD hi]
  rfl
theorem dIx_i {d : D} {o : List Nat} {i : Nat} {z : Int} (h : Sqd d o) (hi : i < o.length) (hz : z = (i : Int)) : dIx d (.int z) = some (nI (o.getD i 0)) := by
  subst hz
  exact dIx_sq h hi
theorem dIx_last {d : D} {o : List Nat} (h : Sqd d o) (hi : 0 < o.length) : dIx d (.int (-1)) = some (nI (o.getD (o.length - 1) 0)) := by
  show (seqD d).bind (fun ds => atI ds (-1)) = _
  rw [seqD_sq h, Option.bind_some]
  unfold atI
  rw [dN_len, ixN_last hi, Option.bind_some, dN_get, get_getD (by omega)]
  rfl
/-- a place in any list of data -/
theorem dIx_get {d : D} {ds : List D} {i : Nat} {x : D} (h : seqD d = some ds) (hi : ds[i]? = some x) : dIx d (nI i) = some x := by
  show (seqD d).bind (fun ds => atI ds (i : Int)) = _
  rw [h, Option.bind_some]
  unfold atI
  rw [ixN_nat' (List.getElem?_eq_some_iff.mp hi).1, Option.bind_some, hi]
@[simp] theorem dIx_0l (x : D) (ds : List D) : dIx (.list (x :: ds)) (.int 0) = some x := dIx_get (i := 0) (d := .list (x :: ds)) rfl rfl
@[simp] theorem dIx_0t (x : D) (ds : List D) : dIx (.tuple (x :: ds)) (.int 0) = some x := dIx_get (i := 0) (d := .tuple (x :: ds)) rfl rfl
@[simp] theorem dIx_1l (x y : D) (ds : List D) : dIx (.list (x :: y :: ds)) (.int 1) = some y := dIx_get (i := 1) (d := .list (x :: y :: ds)) rfl rfl
@[simp] theorem dIx_1t (x y : D) (ds : List D) : dIx (.tuple (x :: y :: ds)) (.int 1) = some y := dIx_get (i := 1) (d := .tuple (x :: y :: ds)) rfl rfl
/-! slices -/
theorem cutD_to {ds : List D} {m : Nat} (h : m ≤ ds.length) : cutD ds none (some (m : Int)) = ds.take m := by
  unfold cutD
  rw [HT.sIx_nat, HT.sIx_none, Nat.min_eq_left h, List.drop_zero, Nat.sub_zero]
theorem cutD_from {ds : List D} {m : Nat} (h : m ≤ ds.length) : cutD ds (some (m : Int)) none = ds.drop m := by
  unfold cutD
  rw [HT.sIx_nat, HT.sIx_none, Nat.min_eq_left h]
  exact List.take_of_length_le (by rw [List.length_drop]; omega)
theorem cutD_mid {ds : List D} {m n : Nat} (h : m ≤ ds.length) (h2 : n ≤ ds.length) : cutD ds (some (m : Int)) (some (n : Int)) = (ds.drop m).take (n - m) := by
  unfold cutD
  rw [HT.sIx_nat, HT.sIx_nat, Nat.min_eq_left h, Nat.min_eq_left h2]
theorem cut_toT {o : List Nat} {m : Nat} {z : Int} (h : m ≤ o.length) (hz : z = (m : Int)) : dCut (tD o) none (some z) = some (tD (o.take m)) := by
  subst hz
  show some (PyData.tuple (cutD _ _ _)) = _
  rw [cutD_to (by rw [dN_len]; exact h), dN_take]
theorem cut_toL {o : List Nat} {m : Nat} {z : Int} (h : m ≤ o.length) (hz : z = (m : Int)) : dCut (lD o) none (some z) = some (lD (o.take m)) := by
  subst hz
  show some (PyData.list (cutD _ _ _)) = _
  rw [cutD_to (by rw [dN_len]; exact h), dN_take]
theorem cut_frT {o : List Nat} {m : Nat} {z : Int} (h : m ≤ o.length) (hz : z = (m : Int)) : dCut (tD o) (some z) none = some (tD (o.drop m)) := by
  subst hz
  show some (PyData.tuple (cutD _ _ _)) = _
  rw [cutD_from (by rw [dN_len]; exact h), dN_drop]
theorem cut_frL {o : List Nat} {m : Nat} {z : Int} (h : m ≤ o.length) (hz : z = (m : Int)) : dCut (lD o) (some z) none = some (lD (o.drop m)) := by
  subst hz
  show some (PyData.list (cutD _ _ _)) = _
  rw [cutD_from (by rw [dN_len]; exact h), dN_drop]
theorem cut_toS {d : D} {o : List Nat} {m : Nat} {z : Int} (h : Sqd d o) (hm : m ≤ o.length) (hz : z = (m : Int)) : ∃ e, dCut d none (some z) = some e ∧ Sqd e (o.take m) := by
  rcases h with rfl | rfl
  · exact ⟨_, cut_toL hm hz, .l _⟩
  · exact ⟨_, cut_toT hm hz, .t _⟩
theorem cut_frS {d : D} {o : List Nat} {m : Nat} {z : Int} (h : Sqd d o) (hm : m ≤ o.length) (hz : z = (m : Int)) : ∃ e, dCut d (some z) none = some e ∧ Sqd e (o.drop m) := by
  rcases h with rfl | rfl
  · exact ⟨_, cut_frL hm hz, .l _⟩
  · exact ⟨_, cut_frT hm hz, .t _⟩
/-! ranges -/
theorem rngD_nat (a n : Nat) : rngD (a : Int) n = dN (List.range' a n) := by
  unfold rngD dN
  rw [List.range'_eq_map_range, List.map_map]
  refine List.map_congr_left fun i _ => ?_
  show PyData.int ((a : Int) + (i : Int)) = PyData.int ((a + i : Nat) : Int)
  congr 1
theorem rngD_0 (n : Nat) : rngD 0 n = dN (List.range n) := by
  have := rngD_nat 0 n
  rw [List.range_eq_range']
  exact this
@[simp] theorem rngD_0' (n : Nat) : rngD 0 n = dN (List.range n) := rngD_0 n
@[simp] theorem rngD_1' (n : Nat) : rngD 1 n = dN (List.range' 1 n) := rngD_nat 1 n
@[simp] theorem rngD_2' (n : Nat) : rngD 2 n = dN (List.range' 2 n) := rngD_nat 2 n
@[simp] theorem rngD_n' (a n : Nat) : rngD (a : Int) n = dN (List.range' a n) := rngD_nat a n
theorem rngD_z {z : Int} {a n : Nat} (h : z = (a : Int)) : rngD z n = dN (List.range' a n) := by rw [h, rngD_nat]
theorem range1_eq (n : Nat) : List.range' 1 n = (List.range n).map (· + 1) := by
  rw [List.range'_eq_map_range]
  exact List.map_congr_left fun i _ => Nat.add_comm 1 i
theorem range2_eq (n : Nat) : List.range' 2 n = (List.range n).map (· + 2) := by
  rw [List.range'_eq_map_range]
  exact List.map_congr_left fun i _ => Nat.add_comm 2 i
theorem isSm_of {z : Int} (h1 : -4000000 ≤ z) (h2 : z ≤ 4000000) : isSm z = true := by
  unfold isSm
  refine decide_eq_true ?_
  by_cases e : z.natAbs = 0
  · rw [e]
    decide
  · refine (Nat.log2_lt e).mpr ?_
    omega
theorem big_of {n : Nat} (h : n ≤ 1000000) : n ≤ BIG := h
@[simp] theorem BIG_eq : BIG = 1000000 := Nat.le_antisymm (Nat.le_refl _) (Nat.le_refl _)
theorem dRg1_nat {n : Nat} (h : n ≤ 1000000) : dRg1 (nI n) = some (dN (List.range n)) := by
  show (if (isSm (n : Int) && decide ((n : Int).toNat ≤ BIG)) = true then some (rngD 0 (n : Int).toNat) else none) = _
  rw [if_pos (by rw [isSm_of (by omega) (by omega)]; show decide _ = true; exact decide_eq_true (by show _ ≤ 1000000; omega)), rngD_0]
  simp
theorem dRg2_nat {a b : Int} {m n : Nat} (ha : a = (m : Int)) (hb : b = (n : Int)) (hm : m ≤ 1000000) (h : n ≤ 1000000) : dRg2 (.int a) (.int b) = some (dN (List.range' m (n - m))) := by
  subst ha hb
  show (if (isSm (m : Int) && isSm (n : Int) && decide (((n : Int) - (m : Int)).toNat ≤ BIG)) = true then some (rngD (m : Int) ((n : Int) - (m : Int)).toNat) else none) = _
  rw [if_pos (by rw [isSm_of (by omega) (by omega), isSm_of (by omega) (by omega)]; show decide _ = true; exact decide_eq_true (by show _ ≤ 1000000; omega)), rngD_nat]
  congr 3
  omega
theorem dN_rng {a n i : Nat} {x : D} (h : (dN (List.range' a n))[i]? = some x) : i < n ∧ x = nI (a + i) := by
  rw [dN_get] at h
  obtain ⟨k, hk, rfl⟩ := Option.map_eq_some_iff.mp h
  have hl := (List.getElem?_eq_some_iff.mp hk).1
  rw [List.length_range'] at hl
  rw [List.getElem?_range' hl, Nat.one_mul] at hk
  cases hk
  exact ⟨hl, rfl⟩
theorem dN_rng0 {n i : Nat} {x : D} (h : (dN (List.range n))[i]? = some x) : i < n ∧ x = nI i := by
  rw [List.range_eq_range'] at h
  obtain ⟨hl, e⟩ := dN_rng h
  rw [Nat.zero_add] at e
  exact ⟨hl, e⟩
/-! index -/
theorem idx_cast (o : List Nat) (k : Nat) : (o.map fun k : Nat => (k : Int)).idxOf (k : Int) = o.idxOf k := by
  induction o with
  | nil => rfl
  | cons a r ih =>
    rw [List.map_cons, List.idxOf_cons, List.idxOf_cons, ih]
    have : ((a : Int) == (k : Int)) = (a == k) := by
      rw [Bool.eq_iff_iff, beq_iff_eq, beq_iff_eq]
      omega
    rw [this]
theorem dIdx_sq {d : D} {o : List Nat} {k : Nat} {z : Int} (h : Sqd d o) (hk : k ∈ o) (hz : z = (k : Int)) : dIdx d (.int z) = some (nI (o.idxOf k)) := by
  subst hz
  show (intsOf d).bind _ = _
  rw [intsOf_sq h, Option.bind_some, if_pos (List.mem_map.mpr ⟨k, hk, rfl⟩), idx_cast]
/-! ### equality of data, kind by kind -/
structure En {α : Type} (n : Nat) (e : α → D) : Prop where
  dep : ∀ a, (e a).depth ≤ n
  lay : ∀ a, (e a).canLay0 = true
  eq : ∀ a b, PyData.eqv (e a) (e b) = true ↔ a = b
theorem En.sh {α : Type} {n : Nat} {e : α → D} (E : En n e) (h : n ≤ 64) (a : α) : SeqAt.shaped (e a) = true := by
  unfold SeqAt.shaped
  rw [E.lay, decide_eq_true (Nat.le_trans (E.dep a) h)]
  rfl
theorem En.mono {α : Type} {n m : Nat} {e : α → D} (E : En n e) (h : n ≤ m) : En m e := ⟨fun a => Nat.le_trans (E.dep a) h, E.lay, E.eq⟩
theorem En.comp {α β : Type} {n : Nat} {e : α → D} (E : En n e) (f : β → α) (hf : ∀ a b, f a = f b → a = b) : En n (fun b => e (f b)) := ⟨fun a => E.dep _, fun a => E.lay _, fun a b => (E.eq _ _).trans ⟨hf a b, fun h => by rw [h]⟩⟩
theorem en_int : En 0 (fun i : Int => (PyData.int i)) := ⟨fun a => Nat.le_refl _, fun a => rfl, fun a b => by
  show (a == b) = true ↔ _
  simp⟩
theorem en_nI : En 0 nI := en_int.comp (fun k : Nat => (k : Int)) fun a b h => by omega
theorem en_bool : En 0 (fun b : Bool => (PyData.bool b)) := ⟨fun a => Nat.le_refl _, fun a => rfl, fun a b => by
  show (a == b) = true ↔ _
  simp⟩
section
variable {α : Type} {n : Nat} {e : α → D} (E : En n e)
include E
theorem en_depAll : ∀ l : List α, PyData.depthAll (l.map e) ≤ n
  | [] => by rw [List.map_nil, PyData.depthAll]; exact Nat.zero_le _
  | a :: l => by
    rw [List.map_cons, PyData.depthAll]
    exact Nat.max_le.mpr ⟨E.dep a, en_depAll l⟩
theorem en_layAll : ∀ l : List α, PyData.canLayAll0 (l.map e) = true
  | [] => by rw [List.map_nil, PyData.canLayAll0]
  | a :: l => by rw [List.map_cons, PyData.canLayAll0, E.lay, en_layAll l]; rfl
theorem en_eqAll : ∀ l m : List α, PyData.eqvAll (l.map e) (m.map e) = true ↔ l = m
  | [], [] => by simp [PyData.eqvAll]
  | [], b :: m => by simp [PyData.eqvAll]
  | a :: l, [] => by simp [PyData.eqvAll]
  | a :: l, b :: m => by
    rw [List.map_cons, List.map_cons, PyData.eqvAll, Bool.and_eq_true, E.eq, en_eqAll l m, List.cons.injEq]
theorem en_list : En (n + 1) (fun l : List α => (PyData.list (l.map e))) := ⟨fun l => by rw [PyData.depth]; have := en_depAll E l; omega, fun l => by rw [PyData.canLay0]; exact en_layAll E l, fun l m => by rw [PyData.eqv]; exact en_eqAll E l m⟩
theorem en_tup : En (n + 1) (fun l : List α => (PyData.tuple (l.map e))) := ⟨fun l => by rw [PyData.depth]; have := en_depAll E l; omega, fun l => by rw [PyData.canLay0]; exact en_layAll E l, fun l m => by rw [PyData.eqv]; exact en_eqAll E l m⟩
theorem en_opt (hn : ∀ a, PyData.eqv .none (e a) = false ∧ PyData.eqv (e a) .none = false) : En n (fun o : Option α => match o with | none => PyData.none | some a => e a) := ⟨fun o => by cases o with | none => exact Nat.zero_le _ | some a => exact E.dep a, fun o => by cases o with | none => rfl | some a => exact E.lay a, fun o p => by
  cases o with
  | none => cases p with
    | none => simp [PyData.eqv]
    | some b => simp [(hn b).1]
  | some a => cases p with
    | none => simp [(hn a).2]
    | some b => simp [E.eq]⟩
theorem dEq_en (h : n ≤ 64) [DecidableEq α] (a b : α) : dEq (e a) (e b) = some (.bool (decide (a = b))) := by
  unfold dEq
  rw [E.sh h, E.sh h]
  have : PyData.eqv (e a) (e b) = decide (a = b) := by rw [Bool.eq_iff_iff, E.eq, decide_eq_true_iff]
  rw [this]
  rfl
theorem dNe_en (h : n ≤ 64) [DecidableEq α] (a b : α) : dNe (e a) (e b) = some (.bool (!decide (a = b))) := by
  unfold dNe
  rw [E.sh h, E.sh h]
  have : PyData.eqv (e a) (e b) = decide (a = b) := by rw [Bool.eq_iff_iff, E.eq, decide_eq_true_iff]
  rw [this]
  rfl
theorem any_en [DecidableEq α] (a : α) (l : List α) : ((l.map e).any fun z => PyData.eqv z (e a)) = decide (a ∈ l) := by
  rw [Bool.eq_iff_iff, List.any_eq_true, decide_eq_true_iff]
  constructor
  · rintro ⟨z, hz, h⟩
    obtain ⟨b, hb, rfl⟩ := List.mem_map.mp hz
    rw [← (E.eq b a).mp h]
    exact hb
  · intro h
    exact ⟨e a, List.mem_map.mpr ⟨a, h, rfl⟩, (E.eq a a).mpr rfl⟩
theorem dIn_enL (h : n + 1 ≤ 64) [DecidableEq α] (a : α) (l : List α) : dIn (e a) (.list (l.map e)) = some (.bool (decide (a ∈ l))) := by
  show (if (SeqAt.shaped (e a) && SeqAt.shaped (.list (l.map e))) = true then _ else _) = _
  rw [E.sh (by omega), (en_list E).sh h l, any_en E]
  rfl
theorem dIn_enT (h : n + 1 ≤ 64) [DecidableEq α] (a : α) (l : List α) : dIn (e a) (.tuple (l.map e)) = some (.bool (decide (a ∈ l))) := by
  show (if (SeqAt.shaped (e a) && SeqAt.shaped (.tuple (l.map e))) = true then _ else _) = _
  rw [E.sh (by omega), (en_tup E).sh h l, any_en E]
  rfl
theorem dNotIn_enL (h : n + 1 ≤ 64) [DecidableEq α] (a : α) (l : List α) : dNotIn (e a) (.list (l.map e)) = some (.bool (!decide (a ∈ l))) := by
  show (if (SeqAt.shaped (e a) && SeqAt.shaped (.list (l.map e))) = true then _ else _) = _
  rw [E.sh (by omega), (en_list E).sh h l, any_en E]
  rfl
theorem dNotIn_enT (h : n + 1 ≤ 64) [DecidableEq α] (a : α) (l : List α) : dNotIn (e a) (.tuple (l.map e)) = some (.bool (!decide (a ∈ l))) := by
  show (if (SeqAt.shaped (e a) && SeqAt.shaped (.tuple (l.map e))) = true then _ else _) = _
  rw [E.sh (by omega), (en_tup E).sh h l, any_en E]
  rfl
end
theorem en_pair {α β : Type} {n : Nat} {e : α → D} {f : β → D} (E : En n e) (F : En n f) : En (n + 1) (fun p : α × β => (PyData.tuple [e p.1, f p.2])) := ⟨fun p => by
    rw [PyData.depth, PyData.depthAll, PyData.depthAll, PyData.depthAll]
    have := E.dep p.1
    have := F.dep p.2
    omega, fun p => by rw [PyData.canLay0, PyData.canLayAll0, PyData.canLayAll0, PyData.canLayAll0, E.lay, F.lay]; rfl, fun p q => by
    rw [PyData.eqv, PyData.eqvAll, PyData.eqvAll, PyData.eqvAll, Bool.and_true, Bool.and_eq_true, E.eq, F.eq, Prod.ext_iff]⟩
theorem en_tD : En 1 tD := en_tup en_nI
theorem en_lD : En 1 lD := en_list en_nI
@[simp] theorem dEq_int (a b : Int) : dEq (.int a) (.int b) = some (.bool (decide (a = b))) := dEq_en en_int (by decide) a b
@[simp] theorem dNe_int (a b : Int) : dNe (.int a) (.int b) = some (.bool (!decide (a = b))) := dNe_en en_int (by decide) a b
@[simp] theorem dEq_bool (a b : Bool) : dEq (.bool a) (.bool b) = some (.bool (decide (a = b))) := dEq_en en_bool (by decide) a b
@[simp] theorem dNe_bool (a b : Bool) : dNe (.bool a) (.bool b) = some (.bool (!decide (a = b))) := dNe_en en_bool (by decide) a b
theorem dIn_sq {d : D} {o : List Nat} {z : Int} {k : Nat} (h : Sqd d o) (hz : z = (k : Int)) : dIn (.int z) d = some (.bool (decide (k ∈ o))) := by
  subst hz
  rcases h with rfl | rfl
  · exact dIn_enL en_nI (by decide) k o
  · exact dIn_enT en_nI (by decide) k o
theorem dNotIn_sq {d : D} {o : List Nat} {z : Int} {k : Nat} (h : Sqd d o) (hz : z = (k : Int)) : dNotIn (.int z) d = some (.bool (!decide (k ∈ o))) := by
  subst hz
  rcases h with rfl | rfl
  · exact dNotIn_enL en_nI (by decide) k o
  · exact dNotIn_enT en_nI (by decide) k o
end Pv

set_option Elab.async false
set_option linter.all false
set_option maxRecDepth 100000
set_option maxHeartbeats 4000000
namespace Pm

structure IsOrd (o : List Nat) : Prop where
  lo : 1 ≤ o.length
  hi : o.length ≤ 9
  perm : o.Perm (List.range' 1 o.length)

theorem IsOrd.small {o : List Nat} (h : IsOrd o) : ∀ k ∈ o, 1 ≤ k ∧ k ≤ o.length := fun k hk => by
  have z := (h.perm.mem_iff (a := k)).mp hk
  obtain ⟨i, hi, e⟩ := List.mem_range'.mp z
  omega
section
end

def und (o : List Nat) : List Nat := (List.range' 1 o.length).map fun k => o.idxOf k + 1
def trn (o : List Nat) : List Nat := o.reverse.map fun k => o.length + 1 - k
def beh (a b : List Nat) : List Nat := b.map fun p => a.getD (p - 1) 0
def exch (o : List Nat) (i j : Nat) : List Nat := (o.set i (o.getD j 0)).set j (o.getD i 0)
theorem idx_cast (k : Nat) : ∀ o : List Nat, (o.map fun k : Nat => (k : Int)).idxOf (k : Int) = o.idxOf k
  | [] => rfl
  | x :: r => by
    rw [List.map_cons, List.idxOf_cons, List.idxOf_cons, idx_cast k r]
    by_cases e : x = k
    · subst e
      simp
    · have e2 : ¬ ((x : Int) = (k : Int)) := fun z => e (Int.ofNat.inj z)
      rw [beq_eq_false_iff_ne.mpr e2, beq_eq_false_iff_ne.mpr e]
theorem IsOrd.mem {o : List Nat} (h : IsOrd o) {k : Nat} (h1 : 1 ≤ k) (h2 : k ≤ o.length) : k ∈ o := (h.perm.mem_iff (a := k)).mpr (List.mem_range'.mpr ⟨k - 1, by omega, by omega⟩)
theorem take_snoc {α : Type} {l : List α} {i : Nat} {x : α} (h : l[i]? = some x) : l.take (i + 1) = l.take i ++ [x] := by
  rw [List.take_add_one, h]
  rfl
section
theorem getD_of {o : List Nat} {i : Nat} (h : i < o.length) : o[i]? = some (o.getD i 0) := by
  rw [List.getElem?_eq_getElem h, List.getD_eq_getElem?_getD, List.getElem?_eq_getElem h]
  rfl
end

/-- the wrong pairs of the place i with the first k places behind it -/
def row (o : List Nat) (i k : Nat) : List (Nat × Nat) := ((List.range k).filter fun b => decide (o.getD i 0 > o.getD (i + 1 + b) 0)).map fun b => (i, i + 1 + b)
def wpTo (o : List Nat) (i j : Nat) : List (Nat × Nat) := ((List.range i).flatMap fun a => row o a (o.length - (a + 1))) ++ row o i j
def wps (o : List Nat) : List (Nat × Nat) := (List.range o.length).flatMap fun a => row o a (o.length - (a + 1))
def lev (o : List Nat) : Nat := (wps o).length
theorem row_zero (o : List Nat) (i : Nat) : row o i 0 = [] := rfl
theorem row_more (o : List Nat) (i k : Nat) : row o i (k + 1) = row o i k ++ (if o.getD i 0 > o.getD (i + 1 + k) 0 then [(i, i + 1 + k)] else []) := by
  unfold row
  rw [List.range_succ, List.filter_append, List.map_append]
  congr 1
  by_cases h : o.getD i 0 > o.getD (i + 1 + k) 0
  · rw [if_pos h, List.filter_cons_of_pos (by exact decide_eq_true h)]
    rfl
  · rw [if_neg h, List.filter_cons_of_neg (by rw [decide_eq_false h]; exact Bool.false_ne_true)]
    rfl
theorem wpTo_more (o : List Nat) (i k : Nat) : wpTo o i (k + 1) = wpTo o i k ++ (if o.getD i 0 > o.getD (i + 1 + k) 0 then [(i, i + 1 + k)] else []) := by
  unfold wpTo
  rw [row_more, List.append_assoc]
theorem wpTo_next (o : List Nat) (i : Nat) : wpTo o (i + 1) 0 = wpTo o i (o.length - (i + 1)) := by
  unfold wpTo
  rw [List.range_succ, List.flatMap_append, row_zero, List.append_nil, List.flatMap_cons, List.flatMap_nil, List.append_nil]
theorem wpTo_end (o : List Nat) : wpTo o o.length 0 = wps o := by
  unfold wpTo wps
  rw [row_zero, List.append_nil]
theorem row_le (o : List Nat) (i k : Nat) : (row o i k).length ≤ k := by
  unfold row
  rw [List.length_map]
  exact Nat.le_trans (List.length_filter_le _ _) (by rw [List.length_range]; exact Nat.le_refl _)
theorem flat_le {f : Nat → List (Nat × Nat)} {c : Nat} (h : ∀ a, (f a).length ≤ c) : ∀ l : List Nat, (l.flatMap f).length ≤ c * l.length
  | [] => Nat.le_refl _
  | a :: r => by
    rw [List.flatMap_cons, List.length_append, List.length_cons, Nat.mul_add]
    have := h a
    have := flat_le h r
    omega
theorem wpTo_le {o : List Nat} {i j : Nat} (h : o.length ≤ 9) (hi : i ≤ 9) (hj : j ≤ 9) : (wpTo o i j).length ≤ 90 := by
  unfold wpTo
  rw [List.length_append]
  have h1 := flat_le (f := fun a => row o a (o.length - (a + 1))) (c := 9) (fun a => Nat.le_trans (row_le _ _ _) (by omega)) (List.range i)
  rw [List.length_range] at h1
  have h2 := row_le o i j
  omega

def kw1 {α : Type} : List α → List α → List α
  | [], [a] => [a]
  | _, _ => []
def kw3 {α : Type} : List α → List α → List α
  | [], [a, b, c] => [c, b, a]
  | _, _ => []
theorem all_true : ∀ n : Nat, (List.replicate n true).all id = true
  | 0 => rfl
  | n + 1 => by
    rw [List.replicate_succ, List.all_cons, all_true n]
    rfl
theorem sum_cast : ∀ l : List Nat, (l.map fun k : Nat => (k : Int)).sum = ((l.sum : Nat) : Int)
  | [] => rfl
  | a :: r => by
    rw [List.map_cons, List.sum_cons, List.sum_cons, sum_cast r]
    omega

theorem ext_at {a b : List Nat} (hl : a.length = b.length) (h : ∀ k, k < a.length → a.getD k 0 = b.getD k 0) : a = b := by
  refine List.ext_getElem? fun k => ?_
  by_cases hk : k < a.length
  · rw [getD_of hk, getD_of (by omega), h k hk]
  · rw [List.getElem?_eq_none (by omega), List.getElem?_eq_none (by omega)]
theorem perm_fits : ∀ (l m : List Nat), l.Nodup → (∀ x ∈ l, x ∈ m) → m.length ≤ l.length → l.Perm m
  | [], m, _, _, h => by
    have : m = [] := List.length_eq_zero_iff.mp (Nat.le_zero.mp h)
    rw [this]
  | x :: r, m, nd, hs, h => by
    obtain ⟨nx, ndr⟩ := List.nodup_cons.mp nd
    have hx := hs x (.head _)
    refine ((perm_fits r (m.erase x) ndr (fun y hy => ?_) ?_).cons x).trans (List.perm_cons_erase hx).symm
    · have ne : y ≠ x := fun z => nx (z ▸ hy)
      exact (List.mem_erase_of_ne ne).mpr (hs y (.tail _ hy))
    · rw [List.length_erase_of_mem hx]
      rw [List.length_cons] at h
      omega
theorem ord_of {l : List Nat} (h1 : 1 ≤ l.length) (h9 : l.length ≤ 9) (hs : ∀ k, k < l.length → 1 ≤ l.getD k 0 ∧ l.getD k 0 ≤ l.length) (inj : ∀ i j, i < l.length → j < l.length → l.getD i 0 = l.getD j 0 → i = j) : IsOrd l := by
  refine ⟨h1, h9, perm_fits _ _ ?_ (fun x hx => ?_) (by rw [List.length_range']; exact Nat.le_refl _)⟩
  · show List.Pairwise _ l
    refine List.pairwise_iff_getElem.mpr fun i j hi hj hij e => ?_
    have ei : l[i]? = l[j]? := by rw [List.getElem?_eq_getElem hi, List.getElem?_eq_getElem hj, e]
    rw [getD_of hi, getD_of hj] at ei
    have := inj i j hi hj (Option.some.inj ei)
    omega
  · obtain ⟨k, hk, e⟩ := List.getElem_of_mem hx
    have e2 : l.getD k 0 = x := by
      have := getD_of hk
      rw [List.getElem?_eq_getElem hk, e] at this
      exact (Option.some.inj this).symm
    have := hs k hk
    rw [e2] at this
    exact List.mem_range'.mpr ⟨x - 1, by omega, by omega⟩
theorem at_of {o : List Nat} {k x : Nat} (h : o[k]? = some x) : o.getD k 0 = x := by
  rw [List.getD_eq_getElem?_getD, h]
  rfl
section
variable {o : List Nat} (h : IsOrd o)
include h
theorem IsOrd.sm {k : Nat} (hk : k < o.length) : 1 ≤ o.getD k 0 ∧ o.getD k 0 ≤ o.length := h.small _ (List.mem_of_getElem? (getD_of hk))
theorem IsOrd.idx {k : Nat} (hk : k < o.length) : o.idxOf (o.getD k 0) = k := by
  obtain ⟨hi, e⟩ := List.getElem?_eq_some_iff.mp (getD_of hk)
  have nd : o.Nodup := h.perm.nodup_iff.mpr (List.nodup_range' ..)
  have z := nd.idxOf_getElem k hi
  rw [e] at z
  exact z
theorem IsOrd.idl {v : Nat} (h1 : 1 ≤ v) (h2 : v ≤ o.length) : o.idxOf v < o.length := List.idxOf_lt_length_iff.mpr (h.mem h1 h2)
theorem IsOrd.idv {v : Nat} (h1 : 1 ≤ v) (h2 : v ≤ o.length) : o.getD (o.idxOf v) 0 = v := by
  have hl := h.idl h1 h2
  exact at_of (by rw [List.getElem?_eq_getElem hl]; exact congrArg some (List.getElem_idxOf hl))
theorem IsOrd.inj {i j : Nat} (hi : i < o.length) (hj : j < o.length) (e : o.getD i 0 = o.getD j 0) : i = j := by rw [← h.idx hi, e, h.idx hj]
end
/-- the sorted order -/
def pl (n : Nat) : List Nat := List.range' 1 n
theorem len_pl (n : Nat) : (pl n).length = n := List.length_range'
theorem len_und (o : List Nat) : (und o).length = o.length := by
  unfold und
  rw [List.length_map, List.length_range']
theorem len_trn (o : List Nat) : (trn o).length = o.length := by
  unfold trn
  rw [List.length_map, List.length_reverse]
theorem len_beh (a b : List Nat) : (beh a b).length = b.length := by
  unfold beh
  rw [List.length_map]
theorem len_exch (o : List Nat) (i j : Nat) : (exch o i j).length = o.length := by
  unfold exch
  rw [List.length_set, List.length_set]
theorem at_pl {n k : Nat} (hk : k < n) : (pl n).getD k 0 = k + 1 := at_of (by
  unfold pl
  rw [List.getElem?_range' hk]
  show some (1 + 1 * k) = _
  rw [show 1 + 1 * k = k + 1 by omega])
theorem at_und {o : List Nat} {k : Nat} (hk : k < o.length) : (und o).getD k 0 = o.idxOf (k + 1) + 1 := at_of (by
  unfold und
  rw [List.getElem?_map, List.getElem?_range' hk]
  show some (o.idxOf (1 + 1 * k) + 1) = _
  rw [show 1 + 1 * k = k + 1 by omega])
theorem at_trn {o : List Nat} {k : Nat} (hk : k < o.length) : (trn o).getD k 0 = o.length + 1 - o.getD (o.length - 1 - k) 0 := at_of (by
  unfold trn
  rw [List.getElem?_map, List.getElem?_reverse hk, getD_of (by omega)]
  rfl)
theorem at_beh {a b : List Nat} {k : Nat} (hk : k < b.length) : (beh a b).getD k 0 = a.getD (b.getD k 0 - 1) 0 := at_of (by
  unfold beh
  rw [List.getElem?_map, getD_of hk]
  rfl)
theorem at_exch {o : List Nat} {i j k : Nat} (hi : i < o.length) (hj : j < o.length) (hk : k < o.length) : (exch o i j).getD k 0 = if k = j then o.getD i 0 else if k = i then o.getD j 0 else o.getD k 0 := by
  unfold exch
  by_cases e : k = j
  · rw [if_pos e, e]
    exact at_of (List.getElem?_set_self (by rw [List.length_set]; exact hj))
  · rw [if_neg e]
    by_cases e2 : k = i
    · rw [if_pos e2]
      subst e2
      exact at_of (by rw [List.getElem?_set_ne (Ne.symm e), List.getElem?_set_self hi])
    · rw [if_neg e2]
      exact at_of (by rw [List.getElem?_set_ne (Ne.symm e), List.getElem?_set_ne (Ne.symm e2), getD_of hk])
theorem ord_pl {n : Nat} (h1 : 1 ≤ n) (h9 : n ≤ 9) : IsOrd (pl n) := ⟨by rw [len_pl]; exact h1, by rw [len_pl]; exact h9, by rw [len_pl]; exact List.Perm.refl _⟩
section
variable {o : List Nat} (h : IsOrd o)
include h
theorem ord_und : IsOrd (und o) := by
  refine ord_of (by rw [len_und]; exact h.lo) (by rw [len_und]; exact h.hi) (fun k hk => ?_) (fun i j hi hj e => ?_)
  · rw [len_und] at hk ⊢
    rw [at_und hk]
    have := h.idl (v := k + 1) (by omega) (by omega)
    omega
  · rw [len_und] at hi hj
    rw [at_und hi, at_und hj] at e
    have e1 := h.idv (v := i + 1) (by omega) (by omega)
    have e2 := h.idv (v := j + 1) (by omega) (by omega)
    rw [show o.idxOf (i + 1) = o.idxOf (j + 1) by omega] at e1
    omega
theorem ord_trn : IsOrd (trn o) := by
  refine ord_of (by rw [len_trn]; exact h.lo) (by rw [len_trn]; exact h.hi) (fun k hk => ?_) (fun i j hi hj e => ?_)
  · rw [len_trn] at hk ⊢
    rw [at_trn hk]
    have := h.sm (k := o.length - 1 - k) (by omega)
    omega
  · rw [len_trn] at hi hj
    rw [at_trn hi, at_trn hj] at e
    have e1 := h.sm (k := o.length - 1 - i) (by omega)
    have e2 := h.sm (k := o.length - 1 - j) (by omega)
    have := h.inj (i := o.length - 1 - i) (j := o.length - 1 - j) (by omega) (by omega) (by omega)
    omega
theorem und_at {k : Nat} (hk : k < o.length) : (und o).getD (o.getD k 0 - 1) 0 = k + 1 := by
  have := h.sm hk
  rw [at_und (by omega), show o.getD k 0 - 1 + 1 = o.getD k 0 by omega, h.idx hk]
theorem at_und_sub {k : Nat} (hk : k < o.length) : o.getD ((und o).getD k 0 - 1) 0 = k + 1 := by
  rw [at_und hk, Nat.add_sub_cancel]
  exact h.idv (by omega) (by omega)
theorem beh_und : beh o (und o) = pl o.length := by
  refine ext_at (by rw [len_beh, len_und, len_pl]) fun k hk => ?_
  rw [len_beh, len_und] at hk
  rw [at_beh (by rw [len_und]; exact hk), at_pl hk]
  exact at_und_sub h hk
theorem und_beh' : beh (und o) o = pl o.length := by
  refine ext_at (by rw [len_beh, len_pl]) fun k hk => ?_
  rw [len_beh] at hk
  rw [at_beh hk, at_pl hk]
  exact und_at h hk
theorem beh_pl : beh o (pl o.length) = o := by
  refine ext_at (by rw [len_beh, len_pl]) fun k hk => ?_
  rw [len_beh, len_pl] at hk
  rw [at_beh (by rw [len_pl]; exact hk), at_pl hk, Nat.add_sub_cancel]
theorem pl_beh : beh (pl o.length) o = o := by
  refine ext_at (len_beh _ _) fun k hk => ?_
  rw [len_beh] at hk
  have := h.sm hk
  rw [at_beh hk, at_pl (by omega)]
  omega
/-- what goes behind undone to k is the place of k -/
theorem und_is {p : List Nat} (hl : p.length = o.length) (hp : ∀ k, k < o.length → 1 ≤ p.getD k 0 ∧ p.getD k 0 ≤ o.length ∧ o.getD (p.getD k 0 - 1) 0 = k + 1) : und o = p := by
  refine ext_at (by rw [len_und, hl]) fun k hk => ?_
  rw [len_und] at hk
  obtain ⟨a, b, c⟩ := hp k hk
  have e := at_und_sub h hk
  have z := (ord_und h).sm (k := k) (by rw [len_und]; exact hk)
  rw [len_und] at z
  have := h.inj (i := (und o).getD k 0 - 1) (j := p.getD k 0 - 1) (by omega) (by omega) (by rw [e, c])
  omega
theorem und_und : und (und o) = o := by
  refine und_is (ord_und h) (by rw [len_und]) fun k hk => ?_
  rw [len_und] at hk ⊢
  have := h.sm hk
  exact ⟨this.1, this.2, und_at h hk⟩
theorem trn_trn : trn (trn o) = o := by
  refine ext_at (by rw [len_trn, len_trn]) fun k hk => ?_
  rw [len_trn, len_trn] at hk
  have := h.sm hk
  rw [at_trn (by rw [len_trn]; exact hk), len_trn, at_trn (by omega), show o.length - 1 - (o.length - 1 - k) = k by omega]
  omega
theorem und_trn : und (trn o) = trn (und o) := by
  refine und_is (ord_trn h) (by rw [len_trn, len_und, len_trn]) fun k hk => ?_
  rw [len_trn] at hk ⊢
  have u := (ord_und h).sm (k := o.length - 1 - k) (by rw [len_und]; omega)
  rw [len_und] at u
  rw [at_trn (o := und o) (by rw [len_und]; exact hk), len_und]
  refine ⟨by omega, by omega, ?_⟩
  rw [at_trn (by omega), show o.length - 1 - (o.length + 1 - (und o).getD (o.length - 1 - k) 0 - 1) = (und o).getD (o.length - 1 - k) 0 - 1 by omega, at_und_sub h (by omega)]
  omega
theorem ord_beh {p : List Nat} (hp : IsOrd p) (hl : o.length = p.length) : IsOrd (beh o p) := by
  refine ord_of (by rw [len_beh]; exact hp.lo) (by rw [len_beh]; exact hp.hi) (fun k hk => ?_) (fun i j hi hj e => ?_)
  · rw [len_beh] at hk ⊢
    rw [at_beh hk]
    have := hp.sm hk
    have := h.sm (k := p.getD k 0 - 1) (by omega)
    omega
  · rw [len_beh] at hi hj
    rw [at_beh hi, at_beh hj] at e
    have a1 := hp.sm hi
    have a2 := hp.sm hj
    have := h.inj (by omega) (by omega) e
    exact hp.inj hi hj (by omega)
theorem und_beh {p : List Nat} (hp : IsOrd p) (hl : o.length = p.length) : und (beh o p) = beh (und p) (und o) := by
  refine und_is (ord_beh h hp hl) (by rw [len_beh, len_beh, len_und, hl]) fun k hk => ?_
  rw [len_beh] at hk ⊢
  have u := (ord_und h).sm (k := k) (by rw [len_und]; omega)
  rw [len_und] at u
  have v := (ord_und hp).sm (k := (und o).getD k 0 - 1) (by rw [len_und]; omega)
  rw [len_und] at v
  rw [at_beh (b := und o) (by rw [len_und]; omega)]
  refine ⟨v.1, v.2, ?_⟩
  rw [at_beh (by omega), at_und_sub hp (by omega), Nat.add_sub_cancel]
  exact at_und_sub h (by omega)
theorem trn_beh {p : List Nat} (hp : IsOrd p) (hl : o.length = p.length) : trn (beh o p) = beh (trn o) (trn p) := by
  refine ext_at (by rw [len_trn, len_beh, len_beh, len_trn]) fun k hk => ?_
  rw [len_trn, len_beh] at hk
  have u := hp.sm (k := p.length - 1 - k) (by omega)
  rw [at_trn (by rw [len_beh]; exact hk), len_beh, at_beh (by omega), at_beh (by rw [len_trn]; exact hk), at_trn hk, at_trn (by omega), hl]
  rw [show p.length - 1 - (p.length + 1 - p.getD (p.length - 1 - k) 0 - 1) = p.getD (p.length - 1 - k) 0 - 1 by omega]
theorem ord_exch {i j : Nat} (hi : i < o.length) (hj : j < o.length) : IsOrd (exch o i j) := by
  refine ord_of (by rw [len_exch]; exact h.lo) (by rw [len_exch]; exact h.hi) (fun k hk => ?_) (fun a b ha hb e => ?_)
  · rw [len_exch] at hk ⊢
    rw [at_exch hi hj hk]
    have := h.sm hi
    have := h.sm hj
    have := h.sm hk
    split
    · assumption
    · split <;> assumption
  · rw [len_exch] at ha hb
    have e1 : ∀ k, (if k = j then o.getD i 0 else if k = i then o.getD j 0 else o.getD k 0) = o.getD (if k = j then i else if k = i then j else k) 0 := fun k => by
      split
      · rfl
      · split <;> rfl
    rw [at_exch hi hj ha, at_exch hi hj hb, e1, e1] at e
    have lt : ∀ k, k < o.length → (if k = j then i else if k = i then j else k) < o.length := fun k hk => by
      split
      · exact hi
      · split
        · exact hj
        · exact hk
    have z := h.inj (lt a ha) (lt b hb) e
    repeat' (split at z)
    all_goals omega
end
theorem beh_beh {a b c : List Nat} (hb : b.length = c.length) (hc : IsOrd c) : beh (beh a b) c = beh a (beh b c) := by
  refine ext_at (by rw [len_beh, len_beh, len_beh]) fun k hk => ?_
  rw [len_beh] at hk
  have := hc.sm hk
  rw [at_beh hk, at_beh (by omega), at_beh (by rw [len_beh]; exact hk), at_beh hk]
theorem beh_step {o : List Nat} {i j : Nat} (hi : i < o.length) (hj : j < o.length) : beh o (exch (pl o.length) i j) = exch o i j := by
  refine ext_at (by rw [len_beh, len_exch, len_exch, len_pl]) fun k hk => ?_
  rw [len_beh, len_exch, len_pl] at hk
  rw [at_beh (by rw [len_exch, len_pl]; exact hk), at_exch (by rw [len_pl]; exact hi) (by rw [len_pl]; exact hj) (by rw [len_pl]; exact hk), at_exch hi hj hk, at_pl hi, at_pl hj, at_pl hk]
  split
  · rw [Nat.add_sub_cancel]
  · split <;> rw [Nat.add_sub_cancel]
theorem at_step {n i j k : Nat} (hi : i < n) (hj : j < n) (hk : k < n) : (exch (pl n) i j).getD k 0 = if k = j then i + 1 else if k = i then j + 1 else k + 1 := by
  rw [at_exch (by rw [len_pl]; exact hi) (by rw [len_pl]; exact hj) (by rw [len_pl]; exact hk), at_pl hi, at_pl hj, at_pl hk]
theorem ord_step {n i j : Nat} (h1 : 1 ≤ n) (h9 : n ≤ 9) (hi : i < n) (hj : j < n) : IsOrd (exch (pl n) i j) := ord_exch (ord_pl h1 h9) (by rw [len_pl]; exact hi) (by rw [len_pl]; exact hj)
theorem und_step {n i j : Nat} (h1 : 1 ≤ n) (h9 : n ≤ 9) (hi : i < n) (hj : j < n) : und (exch (pl n) i j) = exch (pl n) i j := by
  refine und_is (ord_step h1 h9 hi hj) rfl fun k hk => ?_
  rw [len_exch, len_pl] at hk ⊢
  rw [at_step hi hj hk]
  split
  · refine ⟨by omega, by omega, ?_⟩
    rw [at_step hi hj (by omega)]
    split
    · omega
    · rw [if_pos (by omega)]
      omega
  · split
    · refine ⟨by omega, by omega, ?_⟩
      rw [at_step hi hj (by omega), if_pos (by omega)]
      omega
    · refine ⟨by omega, by omega, ?_⟩
      rw [at_step hi hj (by omega), if_neg (by omega), if_neg (by omega)]
      omega
theorem step_beh {o : List Nat} (h : IsOrd o) {i j : Nat} (hi : i < o.length) (hj : j < o.length) : beh (exch (pl o.length) i j) o = exch o (o.idxOf (i + 1)) (o.idxOf (j + 1)) := by
  have i1 := h.idl (v := i + 1) (by omega) (by omega)
  have j1 := h.idl (v := j + 1) (by omega) (by omega)
  have i2 := h.idv (v := i + 1) (by omega) (by omega)
  have j2 := h.idv (v := j + 1) (by omega) (by omega)
  refine ext_at (by rw [len_beh, len_exch]) fun k hk => ?_
  rw [len_beh] at hk
  have s := h.sm hk
  rw [at_beh hk, at_step hi hj (by omega), at_exch i1 j1 hk, i2, j2]
  by_cases e : k = o.idxOf (j + 1)
  · rw [if_pos e, if_pos (by rw [e, j2]; omega)]
  · have ne : o.getD k 0 ≠ j + 1 := fun z => e (by rw [← z, h.idx hk])
    rw [if_neg e, if_neg (by omega)]
    by_cases e2 : k = o.idxOf (i + 1)
    · rw [if_pos e2, if_pos (by rw [e2, i2]; omega)]
    · have ne2 : o.getD k 0 ≠ i + 1 := fun z => e2 (by rw [← z, h.idx hk])
      rw [if_neg e2, if_neg (by omega)]
      omega

def sm (l : List Nat) (f : Nat → Nat) : Nat := (l.map f).sum
theorem sm_nil (f : Nat → Nat) : sm [] f = 0 := rfl
theorem sm_cons (a : Nat) (l : List Nat) (f : Nat → Nat) : sm (a :: l) f = f a + sm l f := by
  unfold sm
  rw [List.map_cons, List.sum_cons]
theorem sm_perm {l m : List Nat} (f : Nat → Nat) (h : l.Perm m) : sm l f = sm m f := by
  induction h with
  | nil => rfl
  | cons x _ ih => rw [sm_cons, sm_cons, ih]
  | swap x y l => rw [sm_cons, sm_cons, sm_cons, sm_cons]; omega
  | trans _ _ h1 h2 => rw [h1, h2]
theorem sm_congr {l : List Nat} {f g : Nat → Nat} (h : ∀ x ∈ l, f x = g x) : sm l f = sm l g := by
  unfold sm
  rw [List.map_congr_left h]
theorem sm_map (l : List Nat) (s f : Nat → Nat) : sm (l.map s) f = sm l fun x => f (s x) := by
  unfold sm
  rw [List.map_map]
  rfl
theorem sm_append (l m : List Nat) (f : Nat → Nat) : sm (l ++ m) f = sm l f + sm m f := by
  unfold sm
  rw [List.map_append, List.sum_append]
theorem sm_add (l : List Nat) (f g : Nat → Nat) : (sm l fun x => f x + g x) = sm l f + sm l g := by
  induction l with
  | nil => rfl
  | cons a r ih => rw [sm_cons, sm_cons, sm_cons, ih]; omega
theorem sm_zero {l : List Nat} {f : Nat → Nat} (h : ∀ x ∈ l, f x = 0) : sm l f = 0 := by
  induction l with
  | nil => rfl
  | cons a r ih => rw [sm_cons, h a (.head _), ih fun x hx => h x (.tail _ hx)]
theorem sm_swap (l m : List Nat) (g : Nat → Nat → Nat) : (sm l fun i => sm m (g i)) = sm m fun j => sm l fun i => g i j := by
  induction l with
  | nil =>
    rw [sm_nil]
    exact (sm_zero fun _ _ => rfl).symm
  | cons a r ih =>
    rw [sm_cons, ih, ← sm_add]
    refine sm_congr fun j _ => ?_
    rw [sm_cons]
theorem len_flat (f : Nat → List (Nat × Nat)) (l : List Nat) : (l.flatMap f).length = sm l fun a => (f a).length := by
  induction l with
  | nil => rfl
  | cons a r ih => rw [List.flatMap_cons, List.length_append, sm_cons, ih]
theorem len_filter (l : List Nat) (p : Nat → Bool) : (l.filter p).length = sm l fun b => if p b = true then 1 else 0 := by
  induction l with
  | nil => rfl
  | cons a r ih =>
    rw [sm_cons, List.filter_cons]
    split
    · rw [List.length_cons, ih]; omega
    · rw [ih]; omega
/-- all pairs of places, told by which count -/
def al (n : Nat) (g : Nat → Nat → Bool) : Nat := sm (List.range n) fun i => sm (List.range n) fun j => if g i j = true then 1 else 0
theorem al_congr {n : Nat} {g f : Nat → Nat → Bool} (h : ∀ i j, i < n → j < n → g i j = f i j) : al n g = al n f :=
  sm_congr fun i hi => sm_congr fun j hj => by rw [h i j (List.mem_range.mp hi) (List.mem_range.mp hj)]
theorem al_swap (n : Nat) (g : Nat → Nat → Bool) : al n g = al n fun i j => g j i := sm_swap _ _ _
theorem al_perm {n : Nat} (s : Nat → Nat) (h : ((List.range n).map s).Perm (List.range n)) (g : Nat → Nat → Bool) : al n g = al n fun i j => g (s i) (s j) := by
  unfold al
  rw [← sm_perm _ h, sm_map]
  refine sm_congr fun i _ => ?_
  rw [← sm_perm _ h, sm_map]
theorem lev_al (o : List Nat) : lev o = al o.length fun i j => decide (i < j ∧ o.getD i 0 > o.getD j 0) := by
  unfold lev wps al
  rw [len_flat]
  refine sm_congr fun a ha => ?_
  have ha' := List.mem_range.mp ha
  unfold row
  rw [List.length_map, len_filter]
  have e : List.range o.length = List.range (a + 1) ++ (List.range (o.length - (a + 1))).map (a + 1 + ·) := by
    rw [← List.range_add, show a + 1 + (o.length - (a + 1)) = o.length by omega]
  have z0 : (sm (List.range (a + 1)) fun j => if decide (a < j ∧ o.getD a 0 > o.getD j 0) = true then 1 else 0) = 0 := sm_zero fun x hx => ?_
  · rw [e, sm_append, sm_map]
    show _ = (sm (List.range (a + 1)) fun j => if decide (a < j ∧ o.getD a 0 > o.getD j 0) = true then 1 else 0) + _
    rw [z0, Nat.zero_add]
    refine sm_congr fun b hb => ?_
    have e2 : decide (a < a + 1 + b ∧ o.getD a 0 > o.getD (a + 1 + b) 0) = decide (o.getD a 0 > o.getD (a + 1 + b) 0) := decide_eq_decide.mpr ⟨fun z => z.2, fun z => ⟨by omega, z⟩⟩
    show _ = if decide (a < a + 1 + b ∧ o.getD a 0 > o.getD (a + 1 + b) 0) = true then 1 else 0
    rw [e2]
  · have := List.mem_range.mp hx
    rw [decide_eq_false (by omega)]
    rfl
theorem perm_of {n : Nat} {s : Nat → Nat} (h1 : ∀ i, i < n → s i < n) (h2 : ∀ i j, i < n → j < n → s i = s j → i = j) : ((List.range n).map s).Perm (List.range n) := by
  refine perm_fits _ _ ?_ (fun x hx => ?_) (by rw [List.length_map]; exact Nat.le_refl _)
  · show List.Pairwise _ _
    rw [List.pairwise_map]
    refine List.Pairwise.imp_of_mem (R := (· < ·)) (fun {a b} ha hb hab e => ?_) List.pairwise_lt_range
    have := h2 a b (List.mem_range.mp ha) (List.mem_range.mp hb) e
    omega
  · obtain ⟨i, hi, rfl⟩ := List.mem_map.mp hx
    exact List.mem_range.mpr (h1 i (List.mem_range.mp hi))
theorem lev_und {o : List Nat} (h : IsOrd o) : lev (und o) = lev o := by
  rw [lev_al, lev_al, len_und, al_swap o.length fun i j => decide (i < j ∧ o.getD i 0 > o.getD j 0)]
  rw [al_perm (fun i => o.getD i 0 - 1) (perm_of (fun i hi => by have := h.sm hi; omega) fun i j hi hj e => by
    have := h.sm hi
    have := h.sm hj
    exact h.inj hi hj (by omega))]
  refine al_congr fun i j hi hj => ?_
  have a := h.sm hi
  have b := h.sm hj
  rw [und_at h hi, und_at h hj]
  exact decide_eq_decide.mpr ⟨fun z => ⟨by omega, by omega⟩, fun z => ⟨by omega, by omega⟩⟩
theorem lev_trn {o : List Nat} (h : IsOrd o) : lev (trn o) = lev o := by
  rw [lev_al, lev_al, len_trn, al_swap o.length fun i j => decide (i < j ∧ o.getD i 0 > o.getD j 0)]
  rw [al_perm (fun i => o.length - 1 - i) (perm_of (fun i hi => by omega) fun i j hi hj e => by omega)]
  refine al_congr fun i j hi hj => ?_
  have a := h.sm hi
  have b := h.sm hj
  rw [at_trn (by omega), at_trn (by omega), show o.length - 1 - (o.length - 1 - i) = i by omega, show o.length - 1 - (o.length - 1 - j) = j by omega]
  exact decide_eq_decide.mpr ⟨fun z => ⟨by omega, by omega⟩, fun z => ⟨by omega, by omega⟩⟩

section
/-- rising -/
def Ris (l : List Nat) : Prop := l.Pairwise (· < ·)
end

def cnt (xs : List Nat) (x : Nat) : Nat := (xs.filter fun y => decide (y < x)).length
def low (xs : List Nat) : List Nat := xs.map fun x => cnt xs x + 1
theorem len_low (xs : List Nat) : (low xs).length = xs.length := by
  unfold low
  rw [List.length_map]
theorem cnt_perm {a b : List Nat} (h : a.Perm b) (x : Nat) : cnt a x = cnt b x := (h.filter _).length_eq
theorem cnt_le (xs : List Nat) {x y : Nat} (h : x ≤ y) : cnt xs x ≤ cnt xs y := by
  unfold cnt
  induction xs with
  | nil => exact Nat.le_refl _
  | cons a t ih =>
    rw [List.filter_cons, List.filter_cons]
    by_cases c : a < x
    · rw [if_pos (decide_eq_true c), if_pos (decide_eq_true (show a < y by omega)), List.length_cons, List.length_cons]
      omega
    · rw [if_neg (by simpa using c)]
      split
      · rw [List.length_cons]; omega
      · exact ih
theorem cnt_lt {xs : List Nat} {x y : Nat} (h : x < y) (m : x ∈ xs) : cnt xs x < cnt xs y := by
  unfold cnt
  induction xs with
  | nil => cases m
  | cons a t ih =>
    have le := cnt_le t (Nat.le_of_lt h)
    unfold cnt at le
    rw [List.filter_cons, List.filter_cons]
    rcases List.mem_cons.mp m with rfl | m
    · rw [if_neg (by simp), if_pos (decide_eq_true h), List.length_cons]
      omega
    · have z := ih m
      by_cases c : a < x
      · rw [if_pos (decide_eq_true c), if_pos (decide_eq_true (show a < y by omega)), List.length_cons, List.length_cons]
        omega
      · rw [if_neg (by simpa using c)]
        split
        · rw [List.length_cons]; omega
        · exact z
theorem low_at {xs : List Nat} {i : Nat} (h : i < xs.length) : (low xs).getD i 0 = cnt xs (xs.getD i 0) + 1 := by
  refine at_of ?_
  unfold low
  rw [List.getElem?_map, getD_of h]
  rfl
theorem low_lt {xs : List Nat} {i j : Nat} (hi : i < xs.length) (hj : j < xs.length) : xs.getD i 0 < xs.getD j 0 ↔ (low xs).getD i 0 < (low xs).getD j 0 := by
  rw [low_at hi, low_at hj]
  constructor
  · intro h
    have := cnt_lt h (List.mem_of_getElem? (getD_of hi))
    omega
  · intro h
    refine Classical.byContradiction fun z => ?_
    have := cnt_le xs (show xs.getD j 0 ≤ xs.getD i 0 by omega)
    omega
theorem map_getD (xs : List Nat) : (List.range xs.length).map (fun i => xs.getD i 0) = xs := by
  refine List.ext_getElem? fun i => ?_
  rw [List.getElem?_map]
  by_cases h : i < xs.length
  · rw [List.getElem?_range h, getD_of h]
    rfl
  · rw [List.getElem?_eq_none (by rw [List.length_range]; omega), List.getElem?_eq_none (by omega)]
    rfl
theorem cnt_idx (xs : List Nat) (x : Nat) : cnt xs x = ((List.range xs.length).filter fun i => decide (xs.getD i 0 < x)).length := by
  unfold cnt
  have e : (xs.filter fun y => decide (y < x)).length = (((List.range xs.length).map (fun i => xs.getD i 0)).filter fun y => decide (y < x)).length := by rw [map_getD]
  rw [e, List.filter_map, List.length_map]
  rfl
theorem low_of {xs ys : List Nat} (hl : xs.length = ys.length) (h : ∀ i j, i < xs.length → j < xs.length → (xs.getD i 0 < xs.getD j 0 ↔ ys.getD i 0 < ys.getD j 0)) : low xs = low ys := by
  refine ext_at (by rw [len_low, len_low, hl]) fun k hk => ?_
  rw [len_low] at hk
  rw [low_at hk, low_at (by omega), cnt_idx, cnt_idx, ← hl]
  congr 2
  refine List.filter_congr fun i hi => ?_
  have hi := List.mem_range.mp hi
  by_cases c : xs.getD i 0 < xs.getD k 0
  · rw [decide_eq_true c, decide_eq_true ((h i k hi hk).mp c)]
  · rw [decide_eq_false c, decide_eq_false (fun z => c ((h i k hi hk).mpr z))]
theorem low_iff {xs ys : List Nat} (hl : xs.length = ys.length) (h : low xs = low ys) {i j : Nat} (hi : i < xs.length) (hj : j < xs.length) : xs.getD i 0 < xs.getD j 0 ↔ ys.getD i 0 < ys.getD j 0 := by
  rw [low_lt hi hj, h, ← low_lt (by omega) (by omega)]
theorem getD_take {xs : List Nat} {i m : Nat} (h : i < m) : (xs.take m).getD i 0 = xs.getD i 0 := by
  rw [List.getD_eq_getElem?_getD, List.getD_eq_getElem?_getD, List.getElem?_take, if_pos h]
theorem low_take {xs ys : List Nat} (hl : xs.length = ys.length) (h : low xs = low ys) (m : Nat) : low (xs.take m) = low (ys.take m) := by
  refine low_of (by rw [List.length_take, List.length_take, hl]) fun i j hi hj => ?_
  rw [List.length_take] at hi hj
  rw [getD_take (by omega), getD_take (by omega), getD_take (by omega), getD_take (by omega)]
  exact low_iff hl h (by omega) (by omega)
theorem cnt_up (n x : Nat) (h1 : 1 ≤ x) (h2 : x ≤ n + 1) : cnt (List.range' 1 n) x = x - 1 := by
  have e : List.range' 1 n = List.range' 1 (x - 1) ++ List.range' x (n - (x - 1)) := by
    have z := List.range'_append (s := 1) (m := x - 1) (n := n - (x - 1)) (step := 1)
    rw [Nat.one_mul, show 1 + (x - 1) = x by omega, show x - 1 + (n - (x - 1)) = n by omega] at z
    exact z.symm
  unfold cnt
  rw [e, List.filter_append, List.filter_eq_self.mpr (fun y hy => decide_eq_true (by have := List.mem_range'_1.mp hy; omega)), List.filter_eq_nil_iff.mpr (fun y hy => by have := List.mem_range'_1.mp hy; simp; omega), List.append_nil, List.length_range']
theorem low_ord {w : List Nat} (h : IsOrd w) : low w = w := by
  refine ext_at (len_low w) fun k hk => ?_
  rw [len_low] at hk
  have sm := h.sm hk
  rw [low_at hk, cnt_perm h.perm, cnt_up _ _ (by omega) (by omega)]
  omega
theorem idx_sorted : ∀ {l : List Int} {x : Int}, l.Pairwise (· ≤ ·) → x ∈ l → l.idxOf x = (l.filter fun y => decide (y < x)).length
  | a :: t, x, s, m => by
    obtain ⟨s1, s2⟩ := List.pairwise_cons.mp s
    by_cases e : a = x
    · subst e
      rw [List.idxOf_cons_self, List.filter_cons_of_neg (by simp), List.filter_eq_nil_iff.mpr (fun y hy => by have := s1 y hy; simp; omega)]
      rfl
    · have mt : x ∈ t := by
        rcases List.mem_cons.mp m with z | z
        · exact absurd z.symm e
        · exact z
      have := s1 x mt
      rw [List.idxOf_cons, beq_false_of_ne e, List.filter_cons_of_pos (p := fun y => decide (y < x)) (decide_eq_true (by omega)), List.length_cons, ← idx_sorted s2 mt]
      rfl
theorem cnt_cast (xs : List Nat) (k : Nat) : ((xs.map fun k : Nat => (k : Int)).filter fun y => decide (y < (k : Int))).length = cnt xs k := by
  unfold cnt
  rw [List.filter_map, List.length_map]
  congr 1
  refine List.filter_congr fun y _ => ?_
  show decide ((y : Int) < (k : Int)) = decide (y < k)
  by_cases c : y < k
  · rw [decide_eq_true c, decide_eq_true (by omega)]
  · rw [decide_eq_false c, decide_eq_false (by omega)]
def at_ (o ps : List Nat) : List Nat := ps.map fun p => o.getD p 0
def chs : List Nat → Nat → List (List Nat)
  | _, 0 => [[]]
  | l, m + 1 => (List.range (l.length - m)).flatMap fun a => (chs (l.drop (a + 1)) m).map fun r => l.getD a 0 :: r
theorem flat_congr {α β : Type} {f g : α → List β} : ∀ {l : List α}, (∀ x ∈ l, f x = g x) → l.flatMap f = l.flatMap g
  | [], _ => rfl
  | a :: t, h => by
    rw [List.flatMap_cons, List.flatMap_cons, h a (.head _), flat_congr fun x hx => h x (.tail _ hx)]
def bh (ps : List Nat) : Nat := match ps.getLast? with | none => 0 | some p => p + 1
def ext (n : Nat) (ps : List Nat) : List (List Nat) := (List.range' (bh ps) (n - bh ps)).map fun p => ps ++ [p]
def En (n : Nat) : Nat → List (List Nat)
  | 0 => [[]]
  | m + 1 => (En n m).flatMap (ext n)
def Fn_ (n : Nat) : Nat → List Nat → List (List Nat)
  | 0, ps => [ps]
  | k + 1, ps => (ext n ps).flatMap (Fn_ n k)
theorem bh_app (ps : List Nat) (p : Nat) : bh (ps ++ [p]) = p + 1 := by
  unfold bh
  rw [List.getLast?_append]
  rfl
theorem Fn_last (n : Nat) : ∀ (k : Nat) (ps : List Nat), Fn_ n (k + 1) ps = (Fn_ n k ps).flatMap (ext n)
  | 0, ps => by
    show (ext n ps).flatMap (Fn_ n 0) = [ps].flatMap (ext n)
    rw [List.flatMap_cons, List.flatMap_nil, List.append_nil]
    show (ext n ps).flatMap (fun ps => [ps]) = _
    rw [List.flatMap_singleton']
  | k + 1, ps => by
    show (ext n ps).flatMap (Fn_ n (k + 1)) = ((ext n ps).flatMap (Fn_ n k)).flatMap (ext n)
    rw [List.flatMap_assoc]
    congr 1
    funext x
    exact Fn_last n k x
theorem En_Fn (n : Nat) : ∀ k, En n k = Fn_ n k []
  | 0 => rfl
  | k + 1 => by
    rw [Fn_last, ← En_Fn n k]
    rfl
theorem chs_short : ∀ (m : Nat) (l : List Nat), l.length < m → chs l m = []
  | m + 1, l, h => by
    show (List.range (l.length - m)).flatMap _ = []
    rw [show l.length - m = 0 by omega]
    rfl
theorem flat_cut {α : Type} (f : Nat → List α) (c : Nat) : ∀ d, (∀ a, c ≤ a → a < c + d → f a = []) → (List.range (c + d)).flatMap f = (List.range c).flatMap f
  | 0, _ => rfl
  | d + 1, h => by
    rw [← Nat.add_assoc, List.range_succ, List.flatMap_append, flat_cut f c d (fun a h1 h2 => h a h1 (by omega)), List.flatMap_cons, h (c + d) (by omega) (by omega)]
    simp
theorem drop_range' (b m a : Nat) : (List.range' b m).drop a = List.range' (b + a) (m - a) := by
  rw [List.drop_range', Nat.mul_one]
theorem Fn_chs (n : Nat) : ∀ (k : Nat) (ps : List Nat), bh ps ≤ n → Fn_ n k ps = (chs (List.range' (bh ps) (n - bh ps)) k).map (ps ++ ·)
  | 0, ps, _ => by
    show [ps] = [[]].map (ps ++ ·)
    simp
  | k + 1, ps, h => by
    have e1 : Fn_ n (k + 1) ps = (List.range (n - bh ps)).flatMap fun a => Fn_ n k (ps ++ [bh ps + a]) := by
      show ((List.range' (bh ps) (n - bh ps)).map fun p => ps ++ [p]).flatMap (Fn_ n k) = _
      rw [List.range'_eq_map_range, List.map_map, List.flatMap_map]
      rfl
    have e2 : (chs (List.range' (bh ps) (n - bh ps)) (k + 1)).map (ps ++ ·) = (List.range (n - bh ps - k)).flatMap fun a => ((chs ((List.range' (bh ps) (n - bh ps)).drop (a + 1)) k).map fun r => (List.range' (bh ps) (n - bh ps)).getD a 0 :: r).map (ps ++ ·) := by
      show ((List.range ((List.range' (bh ps) (n - bh ps)).length - k)).flatMap _).map _ = _
      rw [List.length_range', List.map_flatMap]
    have step : ∀ a, a < n - bh ps → Fn_ n k (ps ++ [bh ps + a]) = ((chs ((List.range' (bh ps) (n - bh ps)).drop (a + 1)) k).map fun r => (List.range' (bh ps) (n - bh ps)).getD a 0 :: r).map (ps ++ ·) := by
      intro a ha
      rw [Fn_chs n k _ (by rw [bh_app]; omega), bh_app, drop_range', List.map_map]
      have e : (List.range' (bh ps) (n - bh ps)).getD a 0 = bh ps + a := at_of (by rw [List.getElem?_range' ha]; simp)
      rw [e, show n - bh ps - (a + 1) = n - (bh ps + a + 1) by omega, show bh ps + (a + 1) = bh ps + a + 1 by omega]
      refine List.map_congr_left fun r _ => ?_
      show (ps ++ [bh ps + a]) ++ r = ps ++ ((bh ps + a) :: r)
      simp
    have nil : ∀ a, n - bh ps - k ≤ a → a < n - bh ps → Fn_ n k (ps ++ [bh ps + a]) = [] := fun a h1 h2 => by
      rw [step a h2, chs_short k _ (by rw [List.length_drop, List.length_range']; omega)]
      rfl
    have cut := flat_cut (fun a => Fn_ n k (ps ++ [bh ps + a])) (n - bh ps - k) (n - bh ps - (n - bh ps - k)) (fun a h1 h2 => nil a h1 (by omega))
    rw [show n - bh ps - k + (n - bh ps - (n - bh ps - k)) = n - bh ps by omega] at cut
    rw [e1, e2]
    refine cut.trans ?_
    refine flat_congr fun a ha => ?_
    have := List.mem_range.mp ha
    exact step a (by omega)
theorem En_chs (n k : Nat) : En n k = chs (List.range n) k := by
  rw [En_Fn, Fn_chs n k [] (Nat.zero_le _)]
  show (chs (List.range' 0 (n - 0)) k).map _ = _
  rw [Nat.sub_zero, ← List.range_eq_range']
  exact List.map_id' _
def pm (o w : List Nat) (m : Nat) (ps : List Nat) : Bool := decide (low (at_ o ps) = low (w.take m))
def Sn (o w : List Nat) : Nat → List (List Nat)
  | 0 => [[]]
  | m + 1 => ((Sn o w m).flatMap (ext o.length)).filter (pm o w (m + 1))
theorem En_len {n : Nat} : ∀ {k : Nat} {ps : List Nat}, ps ∈ En n k → ps.length = k
  | 0, ps, h => by
    rw [List.mem_singleton.mp h]
    rfl
  | k + 1, ps, h => by
    obtain ⟨q, hq, h⟩ := List.mem_flatMap.mp h
    unfold ext at h
    obtain ⟨p, _, rfl⟩ := List.mem_map.mp h
    rw [List.length_append, En_len hq]
    rfl
theorem flat_filter {α β : Type} (p : α → Bool) (f : α → List β) : ∀ l : List α, (∀ x ∈ l, p x = false → f x = []) → (l.filter p).flatMap f = l.flatMap f
  | [], _ => rfl
  | a :: t, h => by
    rw [List.filter_cons, List.flatMap_cons, ← flat_filter p f t fun x hx => h x (.tail _ hx)]
    cases e : p a with
    | true => rw [if_pos rfl, List.flatMap_cons]
    | false => rw [if_neg Bool.false_ne_true, h a (.head _) e, List.nil_append]
theorem Sn_En (o w : List Nat) : ∀ m, m ≤ w.length → Sn o w m = (En o.length m).filter (pm o w m)
  | 0, _ => by
    show [[]] = [[]].filter (pm o w 0)
    rw [List.filter_cons_of_pos (by exact decide_eq_true rfl), List.filter_nil]
  | m + 1, h => by
    show ((Sn o w m).flatMap (ext o.length)).filter (pm o w (m + 1)) = ((En o.length m).flatMap (ext o.length)).filter (pm o w (m + 1))
    rw [Sn_En o w m (by omega), List.filter_flatMap, List.filter_flatMap]
    refine flat_filter _ _ _ fun ps hps hp => ?_
    refine List.filter_eq_nil_iff.mpr fun x hx hy => ?_
    unfold ext at hx
    obtain ⟨q, _, rfl⟩ := List.mem_map.mp hx
    have hy : low (at_ o (ps ++ [q])) = low (w.take (m + 1)) := of_decide_eq_true hy
    have ll := En_len hps
    have z := low_take (by unfold at_; rw [List.length_map, List.length_append, ll, List.length_take]; simp; omega) hy m
    have e : (at_ o (ps ++ [q])).take m = at_ o ps := by
      unfold at_
      rw [List.map_append, List.take_append_of_le_length (by rw [List.length_map]; omega), List.take_of_length_le (by rw [List.length_map]; omega)]
    rw [e, List.take_take, Nat.min_eq_left (by omega)] at z
    rw [show pm o w m ps = true from decide_eq_true z] at hp
    cases hp
/-- where a way stands -/
def stds (o w : List Nat) : List (List Nat) := (chs (List.range o.length) w.length).filter fun ps => decide (low (at_ o ps) = w)
theorem Sn_stds {o w : List Nat} (h : IsOrd w) : Sn o w w.length = stds o w := by
  rw [Sn_En o w _ (Nat.le_refl _), En_chs]
  unfold stds
  refine List.filter_congr fun ps _ => ?_
  unfold pm
  rw [List.take_length, low_ord h]

theorem cast_eq {a b : List Nat} : (a.map fun k : Nat => (k : Int)) = b.map (fun k : Nat => (k : Int)) ↔ a = b := List.map_inj_right fun x y e => Int.ofNat.inj e
section
theorem sub_flat {α β : Type} (f : α → List β) {l m : List α} (h : l.Sublist m) : (l.flatMap f).length ≤ (m.flatMap f).length := by
  induction h with
  | slnil => exact Nat.le_refl _
  | cons a _ ih =>
    rw [List.flatMap_cons, List.length_append]
    omega
  | cons_cons a _ ih =>
    rw [List.flatMap_cons, List.flatMap_cons, List.length_append, List.length_append]
    omega
theorem En_few : ∀ n, n ≤ 9 → ∀ k, k ≤ 9 → (En n k).length ≤ 126 := by
  have h : ((List.range 10).all fun n => (List.range 10).all fun k => decide ((En n k).length ≤ 126)) = true := by decide +kernel
  intro n hn k hk
  exact of_decide_eq_true (List.all_eq_true.mp (List.all_eq_true.mp h n (List.mem_range.mpr (by omega))) k (List.mem_range.mpr (by omega)))
theorem ext_lt {n : Nat} {ps q : List Nat} (hp : ∀ p ∈ ps, p < n) (h : q ∈ ext n ps) : ∀ p ∈ q, p < n := by
  unfold ext at h
  obtain ⟨x, hx, rfl⟩ := List.mem_map.mp h
  intro p hm
  rcases List.mem_append.mp hm with hm | hm
  · exact hp p hm
  · rw [List.mem_singleton.mp hm]
    have := List.mem_range'_1.mp hx
    omega
theorem En_lt {n : Nat} : ∀ {k : Nat} {ps : List Nat}, ps ∈ En n k → ∀ p ∈ ps, p < n
  | 0, ps, h => by
    rw [List.mem_singleton.mp h]
    intro p hp
    cases hp
  | k + 1, ps, h => by
    obtain ⟨q, hq, h⟩ := List.mem_flatMap.mp h
    exact ext_lt (En_lt hq) h
theorem bh_le {n : Nat} {ps : List Nat} (h : ∀ p ∈ ps, p < n) : bh ps ≤ n := by
  unfold bh
  cases e : ps.getLast? with
  | none => exact Nat.zero_le _
  | some p => exact h p (List.mem_of_getLast? e)
theorem Sn_sub (o w : List Nat) (m : Nat) (h : m ≤ w.length) : (Sn o w m).Sublist (En o.length m) := by
  rw [Sn_En o w m h]
  exact List.filter_sublist
end

theorem erase_perm : ∀ (l : List Nat) (k x : Nat), l[k]? = some x → (x :: l.eraseIdx k).Perm l
  | a :: r, 0, x, h => by
    have e : a = x := Option.some.inj h
    subst e
    exact List.Perm.refl _
  | a :: r, k + 1, x, h => by
    rw [List.eraseIdx_cons_succ]
    exact (List.Perm.swap a x _).trans ((erase_perm r k x h).cons a)
theorem flat_len {α β : Type} {f : Nat → List α} {g : Nat → List β} : ∀ l : List Nat, (∀ a ∈ l, (f a).length = (g a).length) → (l.flatMap f).length = (l.flatMap g).length
  | [], _ => rfl
  | a :: t, h => by
    rw [List.flatMap_cons, List.flatMap_cons, List.length_append, List.length_append, h a (.head _), flat_len t fun x hx => h x (.tail _ hx)]
theorem chs_len : ∀ (n : Nat) (l m : List Nat), l.length = m.length → (chs l n).length = (chs m n).length
  | 0, _, _, _ => rfl
  | n + 1, l, m, h => by
    show ((List.range (l.length - n)).flatMap _).length = ((List.range (m.length - n)).flatMap _).length
    rw [h]
    refine flat_len _ fun a _ => ?_
    rw [List.length_map, List.length_map]
    exact chs_len n _ _ (by rw [List.length_drop, List.length_drop, h])
theorem chs_few {l : List Nat} (h : l.length ≤ 9) {n : Nat} (hn : n ≤ 9) : (chs l n).length ≤ 126 := by
  rw [chs_len n l (List.range l.length) (by rw [List.length_range]), ← En_chs]
  exact En_few _ h _ hn
def chF (l : List Nat) (m : Nat) (a : Nat) : List (List Nat) := (chs (l.drop (a + 1)) m).map fun r => l.getD a 0 :: r
theorem chs_mem : ∀ {n : Nat} {l r : List Nat}, r ∈ chs l n → r.length = n
  | 0, l, r, h => by
    rw [List.mem_singleton.mp h]
    rfl
  | n + 1, l, r, h => by
    obtain ⟨a, _, h⟩ := List.mem_flatMap.mp h
    obtain ⟨s, hs, rfl⟩ := List.mem_map.mp h
    rw [List.length_cons, chs_mem hs]
/-- a thing put in -/
def up1 (th x : Nat) : Nat := if th ≤ x then x + 1 else x
def rsd (o : List Nat) (pl th : Nat) : List Nat := (o.map (up1 th)).take pl ++ [th] ++ (o.map (up1 th)).drop pl
theorem len_rsd {o : List Nat} {pl th : Nat} : (rsd o pl th).length = o.length + 1 := by
  unfold rsd
  rw [List.length_append, List.length_append, List.length_take, List.length_drop, List.length_map, List.length_singleton]
  omega
theorem ord_rsd {o : List Nat} (h : IsOrd o) (h8 : o.length ≤ 8) {pl th : Nat} (h1 : 1 ≤ th) (h2 : th ≤ o.length + 1) : IsOrd (rsd o pl th) := by
  refine ⟨by rw [len_rsd]; omega, by rw [len_rsd]; omega, ?_⟩
  rw [len_rsd]
  have p1 : (rsd o pl th).Perm (th :: o.map (up1 th)) := by
    unfold rsd
    rw [List.append_assoc]
    refine List.perm_middle.trans ?_
    show (th :: (List.take pl (o.map (up1 th)) ++ List.drop pl (o.map (up1 th)))).Perm _
    rw [List.take_append_drop]
  refine p1.trans (((h.perm.map _).cons th).trans ?_)
  have e1 : List.range' 1 o.length = List.range' 1 (th - 1) ++ List.range' th (o.length - (th - 1)) := by
    have z := List.range'_append (s := 1) (m := th - 1) (n := o.length - (th - 1)) (step := 1)
    rw [Nat.one_mul, show 1 + (th - 1) = th by omega, show th - 1 + (o.length - (th - 1)) = o.length by omega] at z
    exact z.symm
  have e2 : List.range' 1 (o.length + 1) = List.range' 1 (th - 1) ++ th :: List.range' (th + 1) (o.length - (th - 1)) := by
    have z := List.range'_append (s := 1) (m := th - 1) (n := o.length - (th - 1) + 1) (step := 1)
    rw [Nat.one_mul, show 1 + (th - 1) = th by omega, show th - 1 + (o.length - (th - 1) + 1) = o.length + 1 by omega] at z
    rw [← z, List.range'_succ]
  rw [e1, e2, List.map_append]
  have m1 : (List.range' 1 (th - 1)).map (up1 th) = List.range' 1 (th - 1) := (List.map_congr_left (g := id) fun x hx => by
    have := List.mem_range'_1.mp hx
    unfold up1
    rw [if_neg (by omega)]
    rfl).trans (List.map_id _)
  have m2 : (List.range' th (o.length - (th - 1))).map (up1 th) = List.range' (th + 1) (o.length - (th - 1)) := by
    rw [List.map_congr_left (g := fun x => 1 + x) fun x hx => by
      have := List.mem_range'_1.mp hx
      unfold up1
      rw [if_pos (by omega), Nat.add_comm]]
    rw [List.map_add_range', Nat.add_comm]
  rw [m1, m2]
  exact List.perm_middle.symm
theorem chs_lt : ∀ {n : Nat} {l r : List Nat}, r ∈ chs l n → ∀ x ∈ r, x ∈ l
  | 0, l, r, h, x, hx => by
    rw [List.mem_singleton.mp h] at hx
    cases hx
  | n + 1, l, r, h, x, hx => by
    obtain ⟨a, ha, h⟩ := List.mem_flatMap.mp h
    obtain ⟨s, hs, rfl⟩ := List.mem_map.mp h
    have ha := List.mem_range.mp ha
    rcases List.mem_cons.mp hx with rfl | hx
    · exact List.mem_of_getElem? (getD_of (by omega))
    · exact List.mem_of_mem_drop (chs_lt hs x hx)
def fourL : List (List Nat) := [[4, 2, 3, 1], [3, 5, 1, 4, 2], [4, 2, 5, 1, 3], [3, 5, 1, 6, 2, 4]]
theorem ord_list {o : List Nat} (h : (decide (1 ≤ o.length) && decide (o.length ≤ 9) && (o.isPerm (List.range' 1 o.length))) = true) : IsOrd o := by
  simp only [Bool.and_eq_true, decide_eq_true_eq] at h
  exact ⟨h.1.1, h.1.2, List.isPerm_iff.mp h.2⟩
theorem len_at (o ps : List Nat) : (at_ o ps).length = ps.length := by
  unfold at_
  rw [List.length_map]
theorem at_at {o ps : List Nat} {k : Nat} (h : k < ps.length) : (at_ o ps).getD k 0 = o.getD (ps.getD k 0) 0 := at_of (by
  unfold at_
  rw [List.getElem?_map, getD_of h]
  rfl)
theorem ris_lt {ps : List Nat} (h : Ris ps) {i j : Nat} (ij : i < j) (hj : j < ps.length) : ps.getD i 0 < ps.getD j 0 := by
  have z := List.pairwise_iff_getElem.mp h i j (by omega) hj ij
  rw [List.getD_eq_getElem?_getD, List.getElem?_eq_getElem (by omega), List.getD_eq_getElem?_getD, List.getElem?_eq_getElem hj]
  simpa using z
theorem ris_cmp {ps : List Nat} (h : Ris ps) {i j : Nat} (hi : i < ps.length) (hj : j < ps.length) : ps.getD i 0 < ps.getD j 0 ↔ i < j := by
  constructor
  · intro z
    refine Classical.byContradiction fun c => ?_
    rcases Nat.lt_or_ge j i with y | y
    · have := ris_lt h y hi
      omega
    · have : i = j := by omega
      subst this
      omega
  · intro z
    exact ris_lt h z hj
/-- unlike things -/
def Inj (a : List Nat) : Prop := ∀ i j, i < a.length → j < a.length → a.getD i 0 = a.getD j 0 → i = j
theorem cnt_full {a : List Nat} {x : Nat} (m : x ∈ a) : cnt a x < a.length := by
  unfold cnt
  induction a with
  | nil => cases m
  | cons y t ih =>
    rw [List.filter_cons, List.length_cons]
    rcases List.mem_cons.mp m with rfl | m
    · rw [if_neg (by simp)]
      have := List.length_filter_le (fun y => decide (y < x)) t
      omega
    · have := ih m
      split
      · rw [List.length_cons]; omega
      · omega
theorem low_is_ord {a : List Nat} (h : Inj a) (h1 : 1 ≤ a.length) (h9 : a.length ≤ 9) : IsOrd (low a) := by
  refine ord_of (by rw [len_low]; exact h1) (by rw [len_low]; exact h9) (fun k hk => ?_) (fun i j hi hj e => ?_)
  · rw [len_low] at hk ⊢
    rw [low_at hk]
    have := cnt_full (List.mem_of_getElem? (getD_of hk))
    omega
  · rw [len_low] at hi hj
    refine h i j hi hj ?_
    have a1 := (low_lt hi hj)
    have a2 := (low_lt hj hi)
    omega
theorem inj_at {o ps : List Nat} (io : IsOrd o) (r : Ris ps) (hb : ∀ p ∈ ps, p < o.length) : Inj (at_ o ps) := by
  intro i j hi hj e
  rw [len_at] at hi hj
  rw [at_at hi, at_at hj] at e
  have z := io.inj (hb _ (List.mem_of_getElem? (getD_of hi))) (hb _ (List.mem_of_getElem? (getD_of hj))) e
  have c1 := ris_cmp r hi hj
  have c2 := ris_cmp r hj hi
  omega
theorem low_trn {o ps : List Nat} (io : IsOrd o) (r : Ris ps) (hb : ∀ p ∈ ps, p < o.length) (h1 : 1 ≤ ps.length) (h9 : ps.length ≤ 9) : low (at_ (trn o) (ps.map fun p => o.length - 1 - p).reverse) = trn (low (at_ o ps)) := by
  have la := len_at o ps
  have il := low_is_ord (inj_at io r hb) (by omega) (by omega)
  have it := ord_trn il
  rw [← low_ord it]
  have ll := len_low (at_ o ps)
  have lq : (ps.map fun p => o.length - 1 - p).reverse.length = ps.length := by rw [List.length_reverse, List.length_map]
  have hq : ∀ k, k < ps.length → (ps.map fun p => o.length - 1 - p).reverse.getD k 0 = o.length - 1 - ps.getD (ps.length - 1 - k) 0 := fun k hk => at_of (by
    rw [List.getElem?_reverse (by rw [List.length_map]; exact hk), List.getElem?_map, List.length_map, getD_of (by omega)]
    rfl)
  have hv : ∀ k, k < ps.length → (at_ (trn o) (ps.map fun p => o.length - 1 - p).reverse).getD k 0 = o.length + 1 - (at_ o ps).getD (ps.length - 1 - k) 0 := fun k hk => by
    have lt := hb _ (List.mem_of_getElem? (getD_of (show ps.length - 1 - k < ps.length by omega)))
    rw [at_at (by rw [lq]; exact hk), hq k hk, at_trn (by omega), at_at (by omega)]
    congr 2
    omega
  have hw : ∀ k, k < ps.length → (trn (low (at_ o ps))).getD k 0 = ps.length + 1 - (low (at_ o ps)).getD (ps.length - 1 - k) 0 := fun k hk => by
    rw [at_trn (by omega), ll, la]
  refine low_of (by rw [len_at, lq, len_trn, ll, la]) fun i j hi hj => ?_
  rw [len_at, lq] at hi hj
  rw [hv i hi, hv j hj, hw i hi, hw j hj]
  have c := low_lt (xs := at_ o ps) (i := ps.length - 1 - j) (j := ps.length - 1 - i) (by omega) (by omega)
  have b1 : (at_ o ps).getD (ps.length - 1 - i) 0 ≤ o.length := by
    rw [at_at (by omega)]
    exact (io.sm (hb _ (List.mem_of_getElem? (getD_of (by omega))))).2
  have b2 : (at_ o ps).getD (ps.length - 1 - j) 0 ≤ o.length := by
    rw [at_at (by omega)]
    exact (io.sm (hb _ (List.mem_of_getElem? (getD_of (by omega))))).2
  have d1 := (il.sm (k := ps.length - 1 - i) (by omega)).2
  have d2 := (il.sm (k := ps.length - 1 - j) (by omega)).2
  omega
theorem cnt_range {m i : Nat} (h : i < m) : ((List.range m).filter fun k => decide (k < i)).length = i := by
  have z := cnt_up m (i + 1) (by omega) (by omega)
  unfold cnt at z
  rw [List.range'_eq_map_range, List.filter_map, List.length_map] at z
  rw [show i + 1 - 1 = i by omega] at z
  rw [← z]
  congr 1
  · refine List.filter_congr fun k _ => ?_
    show decide (k < _) = decide (1 + k < i + 1)
    rw [z]
    by_cases c : k < i
    · rw [decide_eq_true c, decide_eq_true (by omega)]
    · rw [decide_eq_false c, decide_eq_false (by omega)]
theorem cnt_ris {us : List Nat} (h : Ris us) {i : Nat} (hi : i < us.length) : cnt us (us.getD i 0) = i := by
  rw [cnt_idx, List.filter_congr (q := fun k => decide (k < i)) fun k hk => ?_, cnt_range hi]
  have c := ris_cmp h (List.mem_range.mp hk) hi
  by_cases z : k < i
  · rw [decide_eq_true z, decide_eq_true (c.mpr z)]
  · rw [decide_eq_false z, decide_eq_false (fun y => z (c.mp y))]
theorem low_und {o ps us : List Nat} (io : IsOrd o) (r : Ris ps) (hb : ∀ p ∈ ps, p < o.length) (h1 : 1 ≤ ps.length) (h9 : ps.length ≤ 9) (per : us.Perm ((at_ o ps).map fun x => x - 1)) (srt : us.Pairwise (· ≤ ·)) : low (at_ (und o) us) = und (low (at_ o ps)) := by
  have la := len_at o ps
  have inj := inj_at io r hb
  have il := low_is_ord inj (by omega) (by omega)
  have iu := ord_und il
  have ll := len_low (at_ o ps)
  have lu : us.length = ps.length := by rw [per.length_eq, List.length_map, la]
  have pos : ∀ x ∈ at_ o ps, 1 ≤ x := fun x hx => by
    unfold at_ at hx
    obtain ⟨p, hp, rfl⟩ := List.mem_map.mp hx
    exact (io.sm (hb p hp)).1
  have nd : us.Nodup := by
    refine per.nodup_iff.mpr ?_
    refine List.pairwise_iff_getElem.mpr fun i j hi hj ij e => ?_
    rw [List.length_map] at hi hj
    rw [List.getElem_map, List.getElem_map] at e
    have p1 := pos _ (List.getElem_mem hi)
    have p2 := pos _ (List.getElem_mem hj)
    have := inj i j hi hj (by rw [List.getD_eq_getElem?_getD, List.getElem?_eq_getElem hi, List.getD_eq_getElem?_getD, List.getElem?_eq_getElem hj]; show (at_ o ps)[i] = (at_ o ps)[j]; omega)
    omega
  have ris : Ris us := (srt.and nd).imp fun z => Nat.lt_of_le_of_ne z.1 z.2
  have key : ∀ i, i < ps.length → ∃ k, k < ps.length ∧ (at_ (und o) us).getD i 0 = ps.getD k 0 + 1 ∧ (und (low (at_ o ps))).getD i 0 = k + 1 := by
    intro i hi
    have mu : us.getD i 0 ∈ us := List.mem_of_getElem? (getD_of (by omega))
    obtain ⟨x, hx, e⟩ := List.mem_map.mp (per.mem_iff.mp mu)
    have px := pos x hx
    obtain ⟨k, hk⟩ := List.getElem?_of_mem hx
    have hkl : k < ps.length := by
      have := (List.getElem?_eq_some_iff.mp hk).1
      omega
    have ex := at_of hk
    have c1 := cnt_ris ris (i := i) (by omega)
    rw [cnt_perm per] at c1
    have c2 : cnt ((at_ o ps).map fun x => x - 1) (us.getD i 0) = cnt (at_ o ps) x := by
      unfold cnt
      rw [List.filter_map, List.length_map]
      congr 1
      refine List.filter_congr fun y hy => ?_
      have py := pos y hy
      show decide (y - 1 < us.getD i 0) = decide (y < x)
      by_cases z : y < x
      · rw [decide_eq_true z, decide_eq_true (by omega)]
      · rw [decide_eq_false z, decide_eq_false (by omega)]
    have lk := low_at (xs := at_ o ps) (i := k) (by omega)
    rw [ex, ← c2, c1] at lk
    refine ⟨k, hkl, ?_, ?_⟩
    · rw [at_at (by omega), at_und (by have := io.sm (hb _ (List.mem_of_getElem? (getD_of hkl))); rw [at_at hkl] at ex; omega), show us.getD i 0 + 1 = x by omega, ← ex, at_at hkl, io.idx (hb _ (List.mem_of_getElem? (getD_of hkl)))]
    · rw [at_und (by omega), ← lk, il.idx (by omega)]
  rw [← low_ord iu]
  refine low_of (by rw [len_at, len_und, ll, la, lu]) fun i j hi hj => ?_
  rw [len_at, lu] at hi hj
  obtain ⟨k, hk, e1, e2⟩ := key i hi
  obtain ⟨k', hk', e3, e4⟩ := key j hj
  rw [e1, e2, e3, e4]
  have := ris_cmp r hk hk'
  omega

theorem chs_of : ∀ {ps l : List Nat}, ps.Sublist l → ps ∈ chs l ps.length
  | [], l, _ => .head _
  | x :: s, l, h => by
    obtain ⟨r1, r2, e, hx, hs⟩ := List.cons_sublist_iff.mp h
    obtain ⟨a, ha⟩ := List.getElem?_of_mem hx
    have al := (List.getElem?_eq_some_iff.mp ha).1
    have hsl := hs.length_le
    show x :: s ∈ (List.range (l.length - s.length)).flatMap fun a => (chs (l.drop (a + 1)) s.length).map fun r => l.getD a 0 :: r
    refine List.mem_flatMap.mpr ⟨a, List.mem_range.mpr (by rw [e, List.length_append]; omega), ?_⟩
    refine List.mem_map.mpr ⟨s, chs_of ?_, ?_⟩
    · refine hs.trans ?_
      rw [e]
      have z : (r1 ++ r2).drop (a + 1) = r1.drop (a + 1) ++ r2 := List.drop_append_of_le_length (by omega)
      rw [z]
      exact List.sublist_append_right _ _
    · have : l.getD a 0 = x := at_of (by rw [e, List.getElem?_append_left al]; exact ha)
      rw [this]
theorem ris_range (n : Nat) : Ris (List.range n) := List.pairwise_lt_range
theorem ris_eq {a b : List Nat} (ha : Ris a) (hb : Ris b) (p : a.Perm b) : a = b := List.Perm.eq_of_pairwise (le := (· < ·)) (fun x y _ _ h1 h2 => absurd h1 (by omega)) ha hb p
theorem ris_nodup {a : List Nat} (h : Ris a) : a.Nodup := List.Pairwise.imp (fun z => Nat.ne_of_lt z) h
theorem ris_sub {ps : List Nat} {n : Nat} (r : Ris ps) (hb : ∀ p ∈ ps, p < n) : ps.Sublist (List.range n) := by
  have e : ps = (List.range n).filter fun k => decide (k ∈ ps) := by
    refine ris_eq r (List.Pairwise.filter _ (ris_range n)) ((List.perm_ext_iff_of_nodup (ris_nodup r) (List.Pairwise.filter _ List.nodup_range)).mpr fun a => ?_)
    rw [List.mem_filter, List.mem_range]
    exact ⟨fun h => ⟨hb a h, decide_eq_true h⟩, fun h => of_decide_eq_true h.2⟩
  rw [e]
  exact List.filter_sublist
theorem chs_sub : ∀ {n : Nat} {l r : List Nat}, r ∈ chs l n → r.Sublist l
  | 0, l, r, h => by
    rw [List.mem_singleton.mp h]
    exact List.nil_sublist _
  | n + 1, l, r, h => by
    obtain ⟨a, ha, h⟩ := List.mem_flatMap.mp h
    obtain ⟨s, hs, rfl⟩ := List.mem_map.mp h
    have ha := List.mem_range.mp ha
    have z := chs_sub hs
    have e : l.drop a = l.getD a 0 :: l.drop (a + 1) := by
      rw [List.drop_eq_getElem_cons (by omega)]
      congr 1
      exact (at_of (List.getElem?_eq_getElem (by omega))).symm
    refine List.Sublist.trans ?_ (List.drop_sublist a l)
    rw [e]
    exact z.cons_cons _
theorem stds_ris {o w ps : List Nat} (h : ps ∈ stds o w) : Ris ps ∧ (∀ p ∈ ps, p < o.length) ∧ ps.length = w.length ∧ low (at_ o ps) = w := by
  unfold stds at h
  obtain ⟨h1, h2⟩ := List.mem_filter.mp h
  exact ⟨(ris_range _).sublist (chs_sub h1), fun p hp => List.mem_range.mp (chs_lt h1 p hp), chs_mem h1, of_decide_eq_true h2⟩
theorem stds_of {o w ps : List Nat} (r : Ris ps) (hb : ∀ p ∈ ps, p < o.length) (l : ps.length = w.length) (e : low (at_ o ps) = w) : ps ∈ stds o w := by
  unfold stds
  refine List.mem_filter.mpr ⟨?_, decide_eq_true e⟩
  rw [← l]
  exact chs_of (ris_sub r hb)
theorem std_trn {o w ps : List Nat} (io : IsOrd o) (iw : IsOrd w) (h : ps ∈ stds o w) : ∃ qs, qs ∈ stds (trn o) (trn w) := by
  obtain ⟨r, hb, l, e⟩ := stds_ris h
  have w1 := iw.lo
  have w9 := iw.hi
  refine ⟨(ps.map fun p => o.length - 1 - p).reverse, stds_of ?_ ?_ ?_ ?_⟩
  · show List.Pairwise (· < ·) _
    rw [List.pairwise_reverse, List.pairwise_map]
    refine List.Pairwise.imp_of_mem (fun {a b} ha hb2 z => ?_) r
    have := hb _ ha
    have := hb _ hb2
    omega
  · intro p hp
    obtain ⟨q, hq, rfl⟩ := List.mem_map.mp (List.mem_reverse.mp hp)
    have := hb q hq
    rw [len_trn]
    omega
  · rw [List.length_reverse, List.length_map, len_trn, l]
  · rw [low_trn io r hb (by omega) (by omega), e]
theorem std_und {o w ps : List Nat} (io : IsOrd o) (iw : IsOrd w) (h : ps ∈ stds o w) : ∃ qs, qs ∈ stds (und o) (und w) := by
  obtain ⟨r, hb, l, e⟩ := stds_ris h
  have w1 := iw.lo
  have w9 := iw.hi
  have inj := inj_at io r hb
  have pos : ∀ x ∈ at_ o ps, 1 ≤ x ∧ x ≤ o.length := fun x hx => by
    unfold at_ at hx
    obtain ⟨p, hp, rfl⟩ := List.mem_map.mp hx
    exact io.sm (hb p hp)
  have nd : ((at_ o ps).map fun x => x - 1).Nodup := by
    refine List.pairwise_iff_getElem.mpr fun i j hi hj ij e => ?_
    rw [List.length_map] at hi hj
    rw [List.getElem_map, List.getElem_map] at e
    have p1 := (pos _ (List.getElem_mem hi)).1
    have p2 := (pos _ (List.getElem_mem hj)).1
    have := inj i j hi hj (by rw [List.getD_eq_getElem?_getD, List.getElem?_eq_getElem hi, List.getD_eq_getElem?_getD, List.getElem?_eq_getElem hj]; show (at_ o ps)[i] = (at_ o ps)[j]; omega)
    omega
  have ris : Ris ((List.range o.length).filter fun k => decide (k ∈ (at_ o ps).map fun x => x - 1)) := List.Pairwise.filter _ (ris_range _)
  have per : ((List.range o.length).filter fun k => decide (k ∈ (at_ o ps).map fun x => x - 1)).Perm ((at_ o ps).map fun x => x - 1) := by
    refine (List.perm_ext_iff_of_nodup (ris_nodup ris) nd).mpr fun a => ?_
    rw [List.mem_filter, List.mem_range]
    refine ⟨fun h => of_decide_eq_true h.2, fun h => ⟨?_, decide_eq_true h⟩⟩
    obtain ⟨x, hx, rfl⟩ := List.mem_map.mp h
    have := pos x hx
    omega
  refine ⟨_, stds_of ris (fun p hp => ?_) ?_ ?_⟩
  · rw [len_und]
    exact List.mem_range.mp (List.mem_filter.mp hp).1
  · rw [per.length_eq, List.length_map, len_at, len_und, l]
  · rw [low_und io r hb (by omega) (by omega) per (ris.imp fun z => Nat.le_of_lt z), e]
theorem four_ord : ∀ u ∈ fourL, IsOrd u := by
  intro o ho
  have : o ∈ [[4, 2, 3, 1], [3, 5, 1, 4, 2], [4, 2, 5, 1, 3], [3, 5, 1, 6, 2, 4]] := ho
  simp only [List.mem_cons, List.not_mem_nil, or_false] at this
  rcases this with rfl | rfl | rfl | rfl <;> exact ord_list (by decide)
theorem four_und : ∀ u ∈ fourL, und u = u := by decide +kernel
theorem four_trn : ∀ u ∈ fourL, trn u ∈ fourL := by decide +kernel
/-- none of the four stands -/
def Free (o : List Nat) : Prop := ∀ u ∈ fourL, stds o u = []
theorem free_of {o o' : List Nat} (h : ∀ u ∈ fourL, ∀ ps ∈ stds o u, ∃ u' ∈ fourL, ∃ qs, qs ∈ stds o' u') (f : Free o') : Free o := fun u hu => by
  cases e : stds o u with
  | nil => rfl
  | cons ps r =>
    obtain ⟨u', hu', qs, hq⟩ := h u hu ps (by rw [e]; exact .head _)
    rw [f u' hu'] at hq
    cases hq
theorem free_und {o : List Nat} (io : IsOrd o) : Free (und o) ↔ Free o := by
  constructor
  · refine free_of fun u hu ps hp => ?_
    obtain ⟨qs, hq⟩ := std_und io (four_ord u hu) hp
    exact ⟨_, by rw [four_und u hu]; exact hu, qs, hq⟩
  · refine free_of fun u hu ps hp => ?_
    obtain ⟨qs, hq⟩ := std_und (ord_und io) (four_ord u hu) hp
    rw [und_und io] at hq
    exact ⟨_, by rw [four_und u hu]; exact hu, qs, hq⟩
theorem free_trn {o : List Nat} (io : IsOrd o) : Free (trn o) ↔ Free o := by
  constructor
  · refine free_of fun u hu ps hp => ?_
    obtain ⟨qs, hq⟩ := std_trn io (four_ord u hu) hp
    exact ⟨_, four_trn u hu, qs, hq⟩
  · refine free_of fun u hu ps hp => ?_
    obtain ⟨qs, hq⟩ := std_trn (ord_trn io) (four_ord u hu) hp
    rw [trn_trn io] at hq
    exact ⟨_, four_trn u hu, qs, hq⟩
/-- the first of some ways that stands, with its first places -/
def fst4 (o : List Nat) : List (List Nat) → Option (List Nat × List Nat)
  | [] => none
  | u :: r => match stds o u with
    | [] => fst4 o r
    | x :: _ => some (u, x)
theorem fst4_none {o : List Nat} : ∀ {l : List (List Nat)}, fst4 o l = none ↔ ∀ u ∈ l, stds o u = []
  | [] => ⟨fun _ _ h => (nomatch h), fun _ => rfl⟩
  | u :: r => by
    cases e : stds o u with
    | nil =>
      have z : fst4 o (u :: r) = fst4 o r := by
        show (match stds o u with | [] => fst4 o r | x :: _ => some (u, x)) = _
        rw [e]
      rw [z, fst4_none]
      refine ⟨fun h v hv => ?_, fun h v hv => h v (.tail _ hv)⟩
      rcases List.mem_cons.mp hv with rfl | hv
      · exact e
      · exact h v hv
    | cons x s =>
      have z : fst4 o (u :: r) = some (u, x) := by
        show (match stds o u with | [] => fst4 o r | x :: _ => some (u, x)) = _
        rw [e]
      rw [z]
      refine ⟨fun h => (nomatch h), fun h => ?_⟩
      have := h u (.head _)
      rw [e] at this
      cases this
theorem fst4_some {o u x : List Nat} : ∀ {l : List (List Nat)}, fst4 o l = some (u, x) → u ∈ l ∧ x ∈ stds o u
  | [], h => by cases h
  | v :: r, h => by
    cases e : stds o v with
    | nil =>
      have z : fst4 o (v :: r) = fst4 o r := by
        show (match stds o v with | [] => fst4 o r | x :: _ => some (v, x)) = _
        rw [e]
      rw [z] at h
      have := fst4_some h
      exact ⟨.tail _ this.1, this.2⟩
    | cons y s =>
      have z : fst4 o (v :: r) = some (v, y) := by
        show (match stds o v with | [] => fst4 o r | x :: _ => some (v, x)) = _
        rw [e]
      rw [z] at h
      cases h
      exact ⟨.head _, by rw [e]; exact .head _⟩
def fr (o : List Nat) : Bool := (fst4 o fourL).isNone
theorem fr_iff {o : List Nat} : fr o = true ↔ Free o := by
  unfold fr
  rw [Option.isNone_iff_eq_none, fst4_none]
  exact Iff.rfl
theorem fr_und {o : List Nat} (io : IsOrd o) : fr (und o) = fr o := by
  rw [Bool.eq_iff_iff, fr_iff, fr_iff, free_und io]
theorem fr_trn {o : List Nat} (io : IsOrd o) : fr (trn o) = fr o := by
  rw [Bool.eq_iff_iff, fr_iff, fr_iff, free_trn io]
def by21 (o : List Nat) : List Nat := o ++ [o.length + 2, o.length + 1]
theorem small4 : ∀ a < 5, ∀ b < 5, ∀ c < 5, ∀ d < 5, [a, b, c, d].isPerm [1, 2, 3, 4] = true → fr (by21 [a, b, c, d]) = fr [a, b, c, d] := by decide +kernel
theorem small3 : ∀ a < 4, ∀ b < 4, ∀ c < 4, fr (by21 [a, b, c]) = fr [a, b, c] := by decide +kernel
theorem small2 : ∀ a < 3, ∀ b < 3, fr (by21 [a, b]) = fr [a, b] := by decide +kernel
theorem small1 : ∀ a < 2, fr (by21 [a]) = fr [a] := by decide +kernel
theorem fr_21 {o : List Nat} (io : IsOrd o) (h4 : o.length ≤ 4) : fr (by21 o) = fr o := by
  have sm := io.small
  have lo := io.lo
  match o, io, h4, sm, lo with
  | [], _, _, _, lo => exact absurd lo (by decide)
  | [a], _, _, sm, _ => exact small1 a (by have := sm a (by simp); simp at this; omega)
  | [a, b], _, _, sm, _ => exact small2 a (by have := sm a (by simp); simp at this; omega) b (by have := sm b (by simp); simp at this; omega)
  | [a, b, c], _, _, sm, _ => exact small3 a (by have := sm a (by simp); simp at this; omega) b (by have := sm b (by simp); simp at this; omega) c (by have := sm c (by simp); simp at this; omega)
  | [a, b, c, d], io, _, sm, _ => exact small4 a (by have := sm a (by simp); simp at this; omega) b (by have := sm b (by simp); simp at this; omega) c (by have := sm c (by simp); simp at this; omega) d (by have := sm d (by simp); simp at this; omega) (List.isPerm_iff.mpr io.perm)
  | _ :: _ :: _ :: _ :: _ :: _, _, h, _, _ => exact absurd h (by simp)

/-- the corner m, k matters, and a greater thing stands ahead, a lesser one behind -/
structure Loose (o : List Nat) (m k : Nat) : Prop where
  m1 : 1 ≤ m
  mn : m < o.length
  k2 : 2 ≤ k
  kn : k ≤ o.length
  a : o.getD (m - 1) 0 < k
  b : k ≤ o.getD m 0
  r : m ≤ o.idxOf k
  l : o.idxOf (k - 1) < m
  big : ∃ x, x < m ∧ k ≤ o.getD x 0
  sml : ∃ y, m ≤ y ∧ y < o.length ∧ o.getD y 0 < k
/-- a first step between low and high -/
theorem step_up (f : Nat → Nat) (lo hi : Nat) : ∀ d p, f p ≤ lo → hi ≤ f (p + d) → lo < hi → (∀ q, p ≤ q → q ≤ p + d → f q ≤ lo ∨ hi ≤ f q) → ∃ m, p < m ∧ m ≤ p + d ∧ f (m - 1) ≤ lo ∧ hi ≤ f m
  | 0, p, h1, h2, h3, _ => by
    exfalso
    rw [Nat.add_zero] at h2
    omega
  | d + 1, p, h1, h2, h3, h4 => by
    rcases h4 (p + d) (by omega) (by omega) with h | h
    · exact ⟨p + d + 1, by omega, by omega, by rw [Nat.add_sub_cancel]; exact h, h2⟩
    · obtain ⟨m, a1, a2, a3, a4⟩ := step_up f lo hi d p h1 h h3 (fun q q1 q2 => h4 q q1 (by omega))
      exact ⟨m, a1, by omega, a3, a4⟩
/-- between a lower left and an upper right lies a corner that matters -/
theorem corner_in {o : List Nat} (io : IsOrd o) : ∀ (d pl pr vL vR : Nat), pr = pl + d → pl < pr → pr < o.length → 1 ≤ vL → vL < vR → vR ≤ o.length → o.getD pl 0 ≤ vL → vR ≤ o.getD pr 0 → o.idxOf vL ≤ pl → pr ≤ o.idxOf vR →
    ∃ m k, pl < m ∧ m ≤ pr ∧ vL < k ∧ k ≤ vR ∧ o.getD (m - 1) 0 < k ∧ k ≤ o.getD m 0 ∧ m ≤ o.idxOf k ∧ o.idxOf (k - 1) < m := by
  intro d
  induction d using Nat.strongRecOn with
  | ind d ih =>
    intro pl pr vL vR ed hp hn h1 hv hvn ha hb hi hj
    by_cases c : ∃ p, pl < p ∧ p < pr ∧ vL < o.getD p 0 ∧ o.getD p 0 < vR
    · obtain ⟨p, p1, p2, v1, v2⟩ := c
      have ix := io.idx (k := p) (by omega)
      obtain ⟨m, k, q1, q2, q3, q4, q5⟩ := ih (pr - p) (by omega) p pr (o.getD p 0) vR (by omega) p2 hn (by omega) v2 hvn (Nat.le_refl _) hb (by omega) hj
      exact ⟨m, k, by omega, q2, by omega, q4, q5⟩
    · have no : ∀ p, pl < p → p < pr → o.getD p 0 ≤ vL ∨ vR ≤ o.getD p 0 := fun p p1 p2 => by
        rcases Nat.lt_or_ge vL (o.getD p 0) with h | h
        · rcases Nat.lt_or_ge (o.getD p 0) vR with h' | h'
          · exact absurd ⟨p, p1, p2, h, h'⟩ c
          · exact .inr h'
        · exact .inl h
      obtain ⟨m, a1, a2, a3, a4⟩ := step_up (fun p => o.getD p 0) vL vR (pr - pl) pl ha (by rw [show pl + (pr - pl) = pr by omega]; exact hb) hv (fun q q1 q2 => by
        by_cases e1 : q = pl
        · exact .inl (by rw [e1]; exact ha)
        · by_cases e2 : q = pr
          · exact .inr (by rw [e2]; exact hb)
          · exact no q (by omega) (by omega))
      obtain ⟨k, b1, b2, b3, b4⟩ := step_up (fun v => o.idxOf v) pl pr (vR - vL) vL hi (by rw [show vL + (vR - vL) = vR by omega]; exact hj) hp (fun v w1 w2 => by
        rcases Nat.lt_or_ge pl (o.idxOf v) with h | h
        · rcases Nat.lt_or_ge (o.idxOf v) pr with h' | h'
          · have e := io.idv (v := v) (by omega) (by omega)
            rcases no _ h h' with z | z
            · rw [e] at z
              have : v = vL := by omega
              rw [this]
              exact .inl hi
            · rw [e] at z
              have : v = vR := by omega
              rw [this]
              exact .inr hj
          · exact .inr h'
        · exact .inl h)
      have a3 : o.getD (m - 1) 0 ≤ vL := a3
      have a4 : vR ≤ o.getD m 0 := a4
      have b3 : o.idxOf (k - 1) ≤ pl := b3
      have b4 : pr ≤ o.idxOf k := b4
      exact ⟨m, k, a1, by omega, b1, by omega, by omega, by omega, by omega, by omega⟩
theorem loose_of {o : List Nat} (io : IsOrd o) {x y pl pr vL vR : Nat} (hp : pl < pr) (hn : pr < o.length) (h1 : 1 ≤ vL) (hv : vL < vR) (hvn : vR ≤ o.length) (ha : o.getD pl 0 ≤ vL) (hb : vR ≤ o.getD pr 0) (hi : o.idxOf vL ≤ pl) (hj : pr ≤ o.idxOf vR)
    (hx : x ≤ pl) (hX : vR ≤ o.getD x 0) (hy : pr ≤ y) (hyn : y < o.length) (hY : o.getD y 0 ≤ vL) : ∃ m k, Loose o m k := by
  obtain ⟨m, k, a1, a2, a3, a4, a5, a6, a7, a8⟩ := corner_in io (pr - pl) pl pr vL vR (by omega) hp hn h1 hv hvn ha hb hi hj
  exact ⟨m, k, by omega, by omega, by omega, by omega, a5, a6, a7, a8, ⟨x, by omega, by omega⟩, ⟨y, by omega, hyn, by omega⟩⟩
/-- if a way stands, a corner is loose -/
theorem loose_std {o u ps : List Nat} (io : IsOrd o) (hu : u ∈ fourL) (hs : ps ∈ stds o u) : ∃ m k, Loose o m k := by
  obtain ⟨r, hb, l, e⟩ := stds_ris hs
  have inb : ∀ k, k < u.length → ps.getD k 0 < o.length := fun k hk => hb _ (List.mem_of_getElem? (getD_of (by omega)))
  have cmp : ∀ i j, i < u.length → j < u.length → (o.getD (ps.getD i 0) 0 < o.getD (ps.getD j 0) 0 ↔ u.getD i 0 < u.getD j 0) := fun i j hi hj => by
    have z := low_lt (xs := at_ o ps) (i := i) (j := j) (by rw [len_at]; omega) (by rw [len_at]; omega)
    rw [at_at (by omega), at_at (by omega), e] at z
    exact z
  have pos : ∀ i j, i < j → j < u.length → ps.getD i 0 < ps.getD j 0 := fun i j ij hj => ris_lt r ij (by omega)
  have val : ∀ k, k < u.length → 1 ≤ o.getD (ps.getD k 0) 0 ∧ o.getD (ps.getD k 0) 0 ≤ o.length := fun k hk => io.sm (inb k hk)
  have ix : ∀ k, k < u.length → o.idxOf (o.getD (ps.getD k 0) 0) = ps.getD k 0 := fun k hk => io.idx (inb k hk)
  have hu' : u ∈ [[4, 2, 3, 1], [3, 5, 1, 4, 2], [4, 2, 5, 1, 3], [3, 5, 1, 6, 2, 4]] := hu
  simp only [List.mem_cons, List.not_mem_nil, or_false] at hu'
  rcases hu' with rfl | rfl | rfl | rfl
  · -- 4 2 3 1
    have p1 := pos 0 1 (by decide) (by decide)
    have p2 := pos 1 2 (by decide) (by decide)
    have p3 := pos 2 3 (by decide) (by decide)
    have c1 := (cmp 1 2 (by decide) (by decide)).mpr (by decide)
    have c2 := (cmp 2 0 (by decide) (by decide)).mpr (by decide)
    have c3 := (cmp 3 1 (by decide) (by decide)).mpr (by decide)
    exact loose_of io (x := ps.getD 0 0) (y := ps.getD 3 0) p2 (inb 2 (by decide)) (val 1 (by decide)).1 c1 (val 2 (by decide)).2 (Nat.le_refl _) (Nat.le_refl _) (Nat.le_of_eq (ix 1 (by decide))) (Nat.le_of_eq (ix 2 (by decide)).symm) (by omega) (by omega) (by omega) (inb 3 (by decide)) (by omega)
  · -- 3 5 1 4 2
    have p1 := pos 0 2 (by decide) (by decide)
    have p0 := pos 1 2 (by decide) (by decide)
    have p2 := pos 2 3 (by decide) (by decide)
    have p3 := pos 3 4 (by decide) (by decide)
    have c1 := (cmp 0 3 (by decide) (by decide)).mpr (by decide)
    have c2 := (cmp 3 1 (by decide) (by decide)).mpr (by decide)
    have c3 := (cmp 4 0 (by decide) (by decide)).mpr (by decide)
    have c4 := (cmp 2 0 (by decide) (by decide)).mpr (by decide)
    have i0 := ix 0 (by decide)
    have i3 := ix 3 (by decide)
    exact loose_of io (x := ps.getD 1 0) (y := ps.getD 4 0) p2 (inb 3 (by decide)) (val 0 (by decide)).1 c1 (val 3 (by decide)).2 (by omega) (Nat.le_refl _) (by omega) (by omega) (by omega) (by omega) (by omega) (inb 4 (by decide)) (by omega)
  · -- 4 2 5 1 3
    have p1 := pos 0 1 (by decide) (by decide)
    have p2 := pos 1 2 (by decide) (by decide)
    have p3 := pos 2 3 (by decide) (by decide)
    have p4 := pos 2 4 (by decide) (by decide)
    have c1 := (cmp 1 4 (by decide) (by decide)).mpr (by decide)
    have c2 := (cmp 4 0 (by decide) (by decide)).mpr (by decide)
    have c3 := (cmp 3 1 (by decide) (by decide)).mpr (by decide)
    have c4 := (cmp 4 2 (by decide) (by decide)).mpr (by decide)
    have i1 := ix 1 (by decide)
    have i4 := ix 4 (by decide)
    exact loose_of io (x := ps.getD 0 0) (y := ps.getD 3 0) p2 (inb 2 (by decide)) (val 1 (by decide)).1 c1 (val 4 (by decide)).2 (Nat.le_refl _) (by omega) (by omega) (by omega) (by omega) (by omega) (by omega) (inb 3 (by decide)) (by omega)
  · -- 3 5 1 6 2 4
    have p0 := pos 1 2 (by decide) (by decide)
    have p1 := pos 0 2 (by decide) (by decide)
    have p2 := pos 2 3 (by decide) (by decide)
    have p3 := pos 3 4 (by decide) (by decide)
    have p4 := pos 3 5 (by decide) (by decide)
    have c1 := (cmp 0 5 (by decide) (by decide)).mpr (by decide)
    have c2 := (cmp 5 1 (by decide) (by decide)).mpr (by decide)
    have c3 := (cmp 4 0 (by decide) (by decide)).mpr (by decide)
    have c4 := (cmp 2 0 (by decide) (by decide)).mpr (by decide)
    have c5 := (cmp 5 3 (by decide) (by decide)).mpr (by decide)
    have i0 := ix 0 (by decide)
    have i5 := ix 5 (by decide)
    exact loose_of io (x := ps.getD 1 0) (y := ps.getD 4 0) p2 (inb 3 (by decide)) (val 0 (by decide)).1 c1 (val 5 (by decide)).2 (by omega) (by omega) (by omega) (by omega) (by omega) (by omega) (by omega) (inb 4 (by decide)) (by omega)
theorem std_4231 {o : List Nat} {p0 p1 p2 p3 : Nat} (a0 : p0 < p1) (a1 : p1 < p2) (a2 : p2 < p3) (an : p3 < o.length) (v0 : o.getD p3 0 < o.getD p1 0) (v1 : o.getD p1 0 < o.getD p2 0) (v2 : o.getD p2 0 < o.getD p0 0) : [p0, p1, p2, p3] ∈ stds o [4, 2, 3, 1] := by
  refine stds_of ?_ (fun p hp => ?_) rfl ?_
  · show List.Pairwise (· < ·) _
    simp only [List.pairwise_cons, List.mem_cons, List.not_mem_nil, or_false, forall_eq_or_imp, forall_eq]
    simp
    omega
  · simp only [List.mem_cons, List.not_mem_nil, or_false] at hp
    omega
  · rw [← low_ord (four_ord [4, 2, 3, 1] (by decide))]
    refine low_of rfl fun i j hi hj => ?_
    have hi : i < 4 := hi
    have hj : j < 4 := hj
    have ci : i = 0 ∨ i = 1 ∨ i = 2 ∨ i = 3 := by omega
    have cj : j = 0 ∨ j = 1 ∨ j = 2 ∨ j = 3 := by omega
    rcases ci with rfl | rfl | rfl | rfl <;> rcases cj with rfl | rfl | rfl | rfl <;> simp only [at_, List.map_cons, List.map_nil, List.getD_cons_zero, List.getD_cons_succ] <;> omega
theorem std_35142 {o : List Nat} {p0 p1 p2 p3 p4 : Nat} (a0 : p0 < p1) (a1 : p1 < p2) (a2 : p2 < p3) (a3 : p3 < p4) (an : p4 < o.length) (v0 : o.getD p2 0 < o.getD p4 0) (v1 : o.getD p4 0 < o.getD p0 0) (v2 : o.getD p0 0 < o.getD p3 0) (v3 : o.getD p3 0 < o.getD p1 0) : [p0, p1, p2, p3, p4] ∈ stds o [3, 5, 1, 4, 2] := by
  refine stds_of ?_ (fun p hp => ?_) rfl ?_
  · show List.Pairwise (· < ·) _
    simp only [List.pairwise_cons, List.mem_cons, List.not_mem_nil, or_false, forall_eq_or_imp, forall_eq]
    simp
    omega
  · simp only [List.mem_cons, List.not_mem_nil, or_false] at hp
    omega
  · rw [← low_ord (four_ord [3, 5, 1, 4, 2] (by decide))]
    refine low_of rfl fun i j hi hj => ?_
    have hi : i < 5 := hi
    have hj : j < 5 := hj
    have ci : i = 0 ∨ i = 1 ∨ i = 2 ∨ i = 3 ∨ i = 4 := by omega
    have cj : j = 0 ∨ j = 1 ∨ j = 2 ∨ j = 3 ∨ j = 4 := by omega
    rcases ci with rfl | rfl | rfl | rfl | rfl <;> rcases cj with rfl | rfl | rfl | rfl | rfl <;> simp only [at_, List.map_cons, List.map_nil, List.getD_cons_zero, List.getD_cons_succ] <;> omega
theorem std_42513 {o : List Nat} {p0 p1 p2 p3 p4 : Nat} (a0 : p0 < p1) (a1 : p1 < p2) (a2 : p2 < p3) (a3 : p3 < p4) (an : p4 < o.length) (v0 : o.getD p3 0 < o.getD p1 0) (v1 : o.getD p1 0 < o.getD p4 0) (v2 : o.getD p4 0 < o.getD p0 0) (v3 : o.getD p0 0 < o.getD p2 0) : [p0, p1, p2, p3, p4] ∈ stds o [4, 2, 5, 1, 3] := by
  refine stds_of ?_ (fun p hp => ?_) rfl ?_
  · show List.Pairwise (· < ·) _
    simp only [List.pairwise_cons, List.mem_cons, List.not_mem_nil, or_false, forall_eq_or_imp, forall_eq]
    simp
    omega
  · simp only [List.mem_cons, List.not_mem_nil, or_false] at hp
    omega
  · rw [← low_ord (four_ord [4, 2, 5, 1, 3] (by decide))]
    refine low_of rfl fun i j hi hj => ?_
    have hi : i < 5 := hi
    have hj : j < 5 := hj
    have ci : i = 0 ∨ i = 1 ∨ i = 2 ∨ i = 3 ∨ i = 4 := by omega
    have cj : j = 0 ∨ j = 1 ∨ j = 2 ∨ j = 3 ∨ j = 4 := by omega
    rcases ci with rfl | rfl | rfl | rfl | rfl <;> rcases cj with rfl | rfl | rfl | rfl | rfl <;> simp only [at_, List.map_cons, List.map_nil, List.getD_cons_zero, List.getD_cons_succ] <;> omega
theorem std_351624 {o : List Nat} {p0 p1 p2 p3 p4 p5 : Nat} (a0 : p0 < p1) (a1 : p1 < p2) (a2 : p2 < p3) (a3 : p3 < p4) (a4 : p4 < p5) (an : p5 < o.length) (v0 : o.getD p2 0 < o.getD p4 0) (v1 : o.getD p4 0 < o.getD p0 0) (v2 : o.getD p0 0 < o.getD p5 0) (v3 : o.getD p5 0 < o.getD p1 0) (v4 : o.getD p1 0 < o.getD p3 0) : [p0, p1, p2, p3, p4, p5] ∈ stds o [3, 5, 1, 6, 2, 4] := by
  refine stds_of ?_ (fun p hp => ?_) rfl ?_
  · show List.Pairwise (· < ·) _
    simp only [List.pairwise_cons, List.mem_cons, List.not_mem_nil, or_false, forall_eq_or_imp, forall_eq]
    simp
    omega
  · simp only [List.mem_cons, List.not_mem_nil, or_false] at hp
    omega
  · rw [← low_ord (four_ord [3, 5, 1, 6, 2, 4] (by decide))]
    refine low_of rfl fun i j hi hj => ?_
    have hi : i < 6 := hi
    have hj : j < 6 := hj
    have ci : i = 0 ∨ i = 1 ∨ i = 2 ∨ i = 3 ∨ i = 4 ∨ i = 5 := by omega
    have cj : j = 0 ∨ j = 1 ∨ j = 2 ∨ j = 3 ∨ j = 4 ∨ j = 5 := by omega
    rcases ci with rfl | rfl | rfl | rfl | rfl | rfl <;> rcases cj with rfl | rfl | rfl | rfl | rfl | rfl <;> simp only [at_, List.map_cons, List.map_nil, List.getD_cons_zero, List.getD_cons_succ] <;> omega
/-- if a corner is loose, a way stands -/
theorem std_loose {o : List Nat} (io : IsOrd o) {m k : Nat} (h : Loose o m k) : ∃ u ∈ fourL, ∃ ps, ps ∈ stds o u := by
  obtain ⟨m1, mn, k2, kn, ha, hb, hr, hl, ⟨x, xm, hX⟩, y, my, yn, hY⟩ := h
  have ek := io.idv (v := k) (by omega) kn
  have ek1 := io.idv (v := k - 1) (by omega) (by omega)
  have rn := io.idl (v := k) (by omega) kn
  have inj : ∀ i j, i < o.length → j < o.length → i ≠ j → o.getD i 0 ≠ o.getD j 0 := fun i j hi hj ne e => ne (io.inj hi hj e)
  generalize o.idxOf k = r at hr ek rn
  generalize o.idxOf (k - 1) = l at hl ek1
  have xr := inj x r (by omega) rn (by omega)
  have yl := inj y l yn (by omega) (by omega)
  have four : ∀ {u ps : List Nat}, u ∈ fourL → ps ∈ stds o u → ∃ u ∈ fourL, ∃ ps, ps ∈ stds o u := fun hu hp => ⟨_, hu, _, hp⟩
  -- the right side
  have right : (∃ p v, m ≤ p ∧ p < y ∧ v = o.getD p 0 ∧ k ≤ v ∧ v < o.getD x 0) ∨ (m < y ∧ y < r ∧ o.getD x 0 < o.getD m 0) := by
    by_cases c : r < y
    · exact .inl ⟨r, _, hr, c, rfl, by omega, by omega⟩
    · have ry : r ≠ y := fun z => by rw [z] at ek; omega
      have my2 : m ≠ y := fun z => by rw [z] at hb; omega
      by_cases c2 : o.getD m 0 < o.getD x 0
      · exact .inl ⟨m, _, Nat.le_refl _, by omega, rfl, hb, c2⟩
      · have := inj m x mn (by omega) (by omega)
        exact .inr ⟨by omega, by omega, by omega⟩
  have left : (∃ p v, x < p ∧ p < m ∧ v = o.getD p 0 ∧ v < k ∧ o.getD y 0 < v) ∨ (l < x ∧ x < m - 1 ∧ o.getD (m - 1) 0 < o.getD y 0) := by
    by_cases c : x < l
    · exact .inl ⟨l, _, c, hl, rfl, by omega, by omega⟩
    · have lx : l ≠ x := fun z => by rw [z] at ek1; omega
      have xa : x ≠ m - 1 := fun z => by rw [z] at hX; omega
      by_cases c2 : o.getD y 0 < o.getD (m - 1) 0
      · exact .inl ⟨m - 1, _, by omega, by omega, rfl, ha, c2⟩
      · have := inj (m - 1) y (by omega) yn (by omega)
        exact .inr ⟨by omega, by omega, by omega⟩
  rcases left with ⟨p, v, p1, p2, rfl, p3, p4⟩ | ⟨l1, l2, l3⟩
  · rcases right with ⟨p', v', q1, q2, rfl, q3, q4⟩ | ⟨r1, r2, r3⟩
    · exact four (by decide) (std_4231 (p0 := x) (p1 := p) (p2 := p') (p3 := y) p1 (by omega) q2 yn (by omega) (by omega) (by omega))
    · exact four (by decide) (std_42513 (p0 := x) (p1 := p) (p2 := m) (p3 := y) (p4 := r) p1 p2 r1 r2 rn (by omega) (by omega) (by omega) (by omega))
  · rcases right with ⟨p', v', q1, q2, rfl, q3, q4⟩ | ⟨r1, r2, r3⟩
    · exact four (by decide) (std_35142 (p0 := l) (p1 := x) (p2 := m - 1) (p3 := p') (p4 := y) l1 l2 (by omega) q2 yn (by omega) (by omega) (by omega) (by omega))
    · exact four (by decide) (std_351624 (p0 := l) (p1 := x) (p2 := m - 1) (p3 := m) (p4 := y) (p5 := r) l1 l2 (by omega) r1 r2 rn (by omega) (by omega) (by omega) (by omega) (by omega))
theorem free_loose {o : List Nat} (io : IsOrd o) : Free o ↔ ¬ ∃ m k, Loose o m k := by
  constructor
  · rintro f ⟨m, k, h⟩
    obtain ⟨u, hu, ps, hp⟩ := std_loose io h
    rw [f u hu] at hp
    cases hp
  · intro h u hu
    cases e : stds o u with
    | nil => rfl
    | cons ps r => exact absurd (loose_std io hu (by rw [e]; exact .head _)) h

def cc (o : List Nat) (m k : Nat) : Nat := ((o.take m).filter fun t => decide (k ≤ t)).length
theorem cc_le (o : List Nat) (m k : Nat) : cc o m k ≤ o.length := Nat.le_trans (List.length_filter_le _ _) (by rw [List.length_take]; omega)
theorem cc_step {o : List Nat} {i t : Nat} (h : o[i]? = some t) (k : Nat) : cc o (i + 1) k = cc o i k + (if k ≤ t then 1 else 0) := by
  unfold cc
  rw [take_snoc h, List.filter_append, List.length_append]
  congr 1
  rw [List.filter_cons, List.filter_nil]
  by_cases e : k ≤ t
  · rw [if_pos (decide_eq_true e), if_pos e]
    rfl
  · rw [if_neg (by rw [decide_eq_false e]; exact Bool.false_ne_true), if_neg e]
    rfl
def acs (n : Nat) : List (Nat × Nat) := (List.range n).flatMap fun a => (List.range n).map fun b => (a + 1, b + 1)
theorem acs_mem {n : Nat} {q : Nat × Nat} (h : q ∈ acs n) : 1 ≤ q.1 ∧ q.1 ≤ n ∧ 1 ≤ q.2 ∧ q.2 ≤ n := by
  unfold acs at h
  obtain ⟨a, ha, hq⟩ := List.mem_flatMap.mp h
  obtain ⟨b, hb, rfl⟩ := List.mem_map.mp hq
  have h1 := List.mem_range.mp ha
  have h2 := List.mem_range.mp hb
  exact ⟨by show 1 ≤ a + 1; omega, by show a + 1 ≤ n; omega, by show 1 ≤ b + 1; omega, by show b + 1 ≤ n; omega⟩
def more (o p : List Nat) (q : Nat × Nat) : Bool := decide (cc o q.1 q.2 > cc p q.1 q.2)
def fstOver (o p : List Nat) : Option (Nat × Nat) := (acs o.length).find? (more o p)
def dn (n : Nat) : List Nat := (List.range n).map fun k => n - k
theorem len_dn (n : Nat) : (dn n).length = n := by
  unfold dn
  rw [List.length_map, List.length_range]
theorem dn_rev : ∀ n : Nat, dn n = (List.range' 1 n).reverse
  | 0 => rfl
  | n + 1 => by
    have e : List.range' 1 (n + 1) = List.range' 1 n ++ [n + 1] := by
      rw [List.range'_concat]
      congr 2
      omega
    rw [e, List.reverse_append, ← dn_rev n]
    unfold dn
    rw [List.range_succ_eq_map, List.map_cons, List.map_map]
    show (n + 1 - 0) :: _ = (n + 1) :: _
    congr 1
    refine List.map_congr_left fun k _ => ?_
    show n + 1 - (k + 1) = n - k
    omega
theorem ord_dn {n : Nat} (h1 : 1 ≤ n) (h9 : n ≤ 9) : IsOrd (dn n) := by
  refine ⟨by rw [len_dn]; exact h1, by rw [len_dn]; exact h9, ?_⟩
  rw [len_dn, dn_rev]
  exact List.reverse_perm _
theorem ord_up {n : Nat} (h1 : 1 ≤ n) (h9 : n ≤ 9) : IsOrd (List.range' 1 n) := ⟨by rw [List.length_range']; exact h1, by rw [List.length_range']; exact h9, by rw [List.length_range']⟩


theorem cnt_rng (s b : Nat) : ∀ len, ((List.range' s len).filter fun t => decide (b ≤ t)).length = len - (b - s)
  | 0 => by
    show 0 = _
    omega
  | len + 1 => by
    rw [List.range'_concat, List.filter_append, List.length_append, cnt_rng s b len, List.filter_cons, List.filter_nil, Nat.one_mul]
    by_cases e : b ≤ s + len
    · rw [if_pos (decide_eq_true e)]
      show _ + 1 = _
      omega
    · rw [if_neg (by rw [decide_eq_false e]; exact Bool.false_ne_true)]
      show _ + 0 = _
      omega
theorem take_rng (s m len : Nat) : (List.range' s len).take m = List.range' s (min m len) := by
  by_cases e : m ≤ len
  · rw [Nat.min_eq_left e, show List.range' s len = List.range' s m ++ List.range' (s + m) (len - m) by rw [List.range'_append_1]; congr 1; omega]
    exact List.take_left' List.length_range'
  · rw [Nat.min_eq_right (by omega), List.take_of_length_le (by rw [List.length_range']; omega)]
theorem cc_rng (s len m k : Nat) : cc (List.range' s len) m k = min m len - (k - s) := by
  unfold cc
  rw [take_rng, cnt_rng]
theorem cc_app (A B : List Nat) (m k : Nat) : cc (A ++ B) m k = cc A m k + cc B (m - A.length) k := by
  unfold cc
  rw [List.take_append, List.filter_append, List.length_append]
/-- the least order in four stretches: p things, c things from k on, the others -/
def lb (n k c p : Nat) : List Nat := List.range' 1 p ++ (List.range' k c ++ (List.range' (p + 1) (k - 1 - p) ++ List.range' (k + c) (n + 1 - (k + c))))
theorem cc_lb (n k c p a b : Nat) : cc (lb n k c p) a b = (min a p - (b - 1)) + ((min (a - p) c - (b - k)) + ((min (a - p - c) (k - 1 - p) - (b - (p + 1))) + (min (a - p - c - (k - 1 - p)) (n + 1 - (k + c)) - (b - (k + c))))) := by
  unfold lb
  rw [cc_app, cc_app, cc_app, cc_rng, cc_rng, cc_rng, cc_rng, List.length_range', List.length_range', List.length_range']
theorem lb_has {n k c p : Nat} : c ≤ cc (lb n k c p) (p + c) k := by
  rw [cc_lb]
  have : p + c - p = c := by omega
  rw [this, Nat.min_self, Nat.sub_self]
  omega
theorem lb_le {n k c p a b : Nat} (hk : 1 ≤ k) (hp : p + 1 ≤ k) (hn : k + c ≤ n + 1) (ha : a ≤ n) (hb : 1 ≤ b) : cc (lb n k c p) a b ≤ a + 1 - b ∨ cc (lb n k c p) a b + (p + c - a) + (b - k) ≤ c ∨ cc (lb n k c p) a b = 0 := by
  rw [cc_lb]
  by_cases h1 : a ≤ p
  · have e1 : min a p = a := by omega
    have e2 : a - p = 0 := by omega
    rw [e1, e2]
    simp only [Nat.zero_sub, Nat.zero_min, Nat.zero_le, Nat.add_zero]
    left
    omega
  · have e1 : min a p = p := by omega
    rw [e1]
    by_cases h2 : a ≤ p + c
    · have e2 : min (a - p) c = a - p := by omega
      have e3 : a - p - c = 0 := by omega
      rw [e2, e3]
      simp only [Nat.zero_sub, Nat.zero_min, Nat.zero_le, Nat.add_zero]
      by_cases hbk : b ≤ k
      · have : b - k = 0 := by omega
        rw [this]
        by_cases hbp : b ≤ p + 1
        · left; omega
        · right; left; omega
      · by_cases z : a - p ≤ b - k
        · right; right; omega
        · right; left; omega
    · have e2 : min (a - p) c = c := by omega
      rw [e2]
      by_cases h3 : a - p - c ≤ k - 1 - p
      · have e3 : min (a - p - c) (k - 1 - p) = a - p - c := by omega
        have e4 : a - p - c - (k - 1 - p) = 0 := by omega
        rw [e3, e4]
        simp only [Nat.zero_min, Nat.zero_sub, Nat.add_zero]
        by_cases hbp : b ≤ p + 1
        · left; omega
        · by_cases hbk : b ≤ k
          · by_cases z : a - p - c ≤ b - (p + 1)
            · right; left; omega
            · left; omega
          · by_cases z : c ≤ b - k
            · right; right; omega
            · right; left; omega
      · have e3 : min (a - p - c) (k - 1 - p) = k - 1 - p := by omega
        have e4 : min (a - p - c - (k - 1 - p)) (n + 1 - (k + c)) = a - p - c - (k - 1 - p) := by omega
        rw [e3, e4]
        by_cases hbp : b ≤ p + 1
        · left; omega
        · by_cases hbk : b ≤ k
          · left; omega
          · by_cases z : b ≤ k + c
            · left; omega
            · left; omega
theorem lb_perm {n k c p : Nat} (hk : 1 ≤ k) (hp : p + 1 ≤ k) (hn : k + c ≤ n + 1) : (lb n k c p).Perm (List.range' 1 n) := by
  have e : List.range' 1 n = List.range' 1 p ++ (List.range' (p + 1) (k - 1 - p) ++ (List.range' k c ++ List.range' (k + c) (n + 1 - (k + c)))) := by
    have cat : ∀ s m n : Nat, List.range' s m ++ List.range' (s + m) n = List.range' s (m + n) := fun s m n => List.range'_append_1
    have z1 := cat k c (n + 1 - (k + c))
    have z2 := cat (p + 1) (k - 1 - p) (c + (n + 1 - (k + c)))
    rw [show p + 1 + (k - 1 - p) = k by omega] at z2
    have z3 := cat 1 p (k - 1 - p + (c + (n + 1 - (k + c))))
    rw [Nat.add_comm 1 p] at z3
    rw [z1, z2]
    rw [z3]
    congr 1
    omega
  rw [e]
  unfold lb
  refine List.Perm.append_left _ ?_
  rw [← List.append_assoc, ← List.append_assoc]
  exact List.Perm.append_right _ List.perm_append_comm
theorem lb_len {n k c p : Nat} (hk : 1 ≤ k) (hp : p + 1 ≤ k) (hn : k + c ≤ n + 1) : (lb n k c p).length = n := by
  rw [(lb_perm hk hp hn).length_eq, List.length_range']
theorem ord_lb {n k c p : Nat} (h1 : 1 ≤ n) (h9 : n ≤ 9) (hk : 1 ≤ k) (hp : p + 1 ≤ k) (hn : k + c ≤ n + 1) : IsOrd (lb n k c p) := ⟨by rw [lb_len hk hp hn]; exact h1, by rw [lb_len hk hp hn]; exact h9, by rw [lb_len hk hp hn]; exact lb_perm hk hp hn⟩
/-- near, and the others behind it -/
def nearR (n k c p : Nat) : List Nat := (List.range' 1 p ++ List.range' k c) ++ (List.range' 1 n).filter fun t => decide (t ∉ List.range' 1 p ++ List.range' k c)
theorem mem_near {k c p t : Nat} : t ∈ List.range' 1 p ++ List.range' k c ↔ (1 ≤ t ∧ t < 1 + p) ∨ (k ≤ t ∧ t < k + c) := by
  rw [List.mem_append, List.mem_range'_1, List.mem_range'_1]
theorem near_lb {n k c p : Nat} (hk : 1 ≤ k) (hp : p + 1 ≤ k) (hn : k + c ≤ n + 1) : nearR n k c p = lb n k c p := by
  have e : List.range' 1 n = List.range' 1 p ++ (List.range' (p + 1) (k - 1 - p) ++ (List.range' k c ++ List.range' (k + c) (n + 1 - (k + c)))) := by
    have cat : ∀ s m n : Nat, List.range' s m ++ List.range' (s + m) n = List.range' s (m + n) := fun s m n => List.range'_append_1
    have z1 := cat k c (n + 1 - (k + c))
    have z2 := cat (p + 1) (k - 1 - p) (c + (n + 1 - (k + c)))
    rw [show p + 1 + (k - 1 - p) = k by omega] at z2
    have z3 := cat 1 p (k - 1 - p + (c + (n + 1 - (k + c))))
    rw [Nat.add_comm 1 p] at z3
    rw [z1, z2]
    rw [z3]
    congr 1
    omega
  have no : ∀ {s len : Nat}, (∀ t, s ≤ t → t < s + len → (1 ≤ t ∧ t < 1 + p) ∨ (k ≤ t ∧ t < k + c)) → (List.range' s len).filter (fun t => decide (t ∉ List.range' 1 p ++ List.range' k c)) = [] := fun h => List.filter_eq_nil_iff.mpr fun t ht => by
    have ⟨h1, h2⟩ := List.mem_range'_1.mp ht
    have := mem_near.mpr (h t h1 h2)
    simp [this]
  have yes : ∀ {s len : Nat}, (∀ t, s ≤ t → t < s + len → ¬ ((1 ≤ t ∧ t < 1 + p) ∨ (k ≤ t ∧ t < k + c))) → (List.range' s len).filter (fun t => decide (t ∉ List.range' 1 p ++ List.range' k c)) = List.range' s len := fun h => List.filter_eq_self.mpr fun t ht => by
    have ⟨h1, h2⟩ := List.mem_range'_1.mp ht
    exact decide_eq_true fun z => h t h1 h2 (mem_near.mp z)
  unfold nearR lb
  rw [e, List.filter_append, List.filter_append, List.filter_append, no (s := 1) (len := p) (fun t a b => .inl ⟨a, b⟩), no (s := k) (len := c) (fun t a b => .inr ⟨a, b⟩), yes (s := p + 1) (fun t a b => by omega), yes (s := k + c) (fun t a b => by omega), List.nil_append, List.nil_append, List.append_assoc]
theorem small_few {w : List Nat} (h : IsOrd w) (b : Nat) : (w.filter fun t => decide (b ≤ t)).length = w.length - (b - 1) := by
  rw [(h.perm.filter _).length_eq, cnt_rng]
theorem split_len (l : List Nat) (b : Nat) : (l.filter fun t => decide (b ≤ t)).length + (l.filter fun t => !decide (b ≤ t)).length = l.length := by
  induction l with
  | nil => rfl
  | cons x r ih =>
    rw [List.filter_cons, List.filter_cons, List.length_cons]
    cases e : decide (b ≤ x) with
    | true =>
      simp only [Bool.not_true, ↓reduceIte, Bool.false_eq_true, List.length_cons]
      omega
    | false =>
      simp only [Bool.not_false, ↓reduceIte, Bool.false_eq_true, List.length_cons]
      omega
theorem take_few (l : List Nat) (f : Nat → Bool) (a : Nat) : ((l.take a).filter f).length ≤ (l.filter f).length := (List.Sublist.filter f (List.take_sublist a l)).length_le
theorem cc_low {w : List Nat} (h : IsOrd w) {a b : Nat} (ha : a ≤ w.length) (hb : 1 ≤ b) : a + 1 ≤ cc w a b + b := by
  have z := split_len (w.take a) b
  rw [List.length_take, Nat.min_eq_left ha] at z
  have t := take_few w (fun t => !decide (b ≤ t)) a
  have s := split_len w b
  rw [small_few h b] at s
  show a + 1 ≤ ((w.take a).filter fun t => decide (b ≤ t)).length + b
  omega
theorem cc_less {w : List Nat} (m a b : Nat) : cc w m b ≤ cc w a b + (m - a) := by
  by_cases h : m ≤ a
  · have e : w.take m = (w.take a).take m := by rw [List.take_take, Nat.min_eq_left h]
    unfold cc
    rw [e]
    have := take_few (w.take a) (fun t => decide (b ≤ t)) m
    omega
  · have e : w.take m = w.take a ++ (w.drop a).take (m - a) := by
      rw [show m = a + (m - a) by omega, List.take_add, show a + (m - a) - a = m - a by omega]
    unfold cc
    rw [e, List.filter_append, List.length_append]
    have := List.length_filter_le (fun t => decide (b ≤ t)) ((w.drop a).take (m - a))
    have := List.length_take_le (m - a) (w.drop a)
    omega
theorem cc_up {w : List Nat} (h : IsOrd w) (a : Nat) {b k : Nat} (hk : 1 ≤ k) : cc w a k ≤ cc w a b + (b - k) := by
  by_cases e : b ≤ k
  · have : ∀ l : List Nat, (l.filter fun t => decide (k ≤ t)).length ≤ (l.filter fun t => decide (b ≤ t)).length := by
      intro l
      induction l with
      | nil => exact Nat.le_refl _
      | cons x r ih =>
        rw [List.filter_cons, List.filter_cons]
        by_cases e1 : k ≤ x
        · rw [if_pos (decide_eq_true e1), if_pos (decide_eq_true (by omega)), List.length_cons, List.length_cons]
          omega
        · rw [if_neg (by rw [decide_eq_false e1]; exact Bool.false_ne_true)]
          split
          · rw [List.length_cons]; omega
          · exact ih
    exact Nat.le_trans (this _) (Nat.le_add_right _ _)
  · have mid : ∀ l : List Nat, (l.filter fun t => decide (k ≤ t)).length = (l.filter fun t => decide (b ≤ t)).length + (l.filter fun t => decide (k ≤ t) && !decide (b ≤ t)).length := by
      intro l
      induction l with
      | nil => rfl
      | cons x r ih =>
        rw [List.filter_cons, List.filter_cons, List.filter_cons]
        by_cases e1 : b ≤ x
        · simp only [decide_eq_true e1, decide_eq_true (show k ≤ x by omega), Bool.not_true, Bool.and_false, ↓reduceIte, Bool.false_eq_true, List.length_cons]
          omega
        · by_cases e2 : k ≤ x
          · simp only [decide_eq_false e1, decide_eq_true e2, Bool.not_false, Bool.and_true, ↓reduceIte, Bool.false_eq_true, List.length_cons]
            omega
          · simp only [decide_eq_false e1, decide_eq_false e2, Bool.not_false, Bool.and_true, ↓reduceIte, Bool.false_eq_true]
            omega
    have z := mid (w.take a)
    have t := take_few w (fun t => decide (k ≤ t) && !decide (b ≤ t)) a
    have s := mid w
    rw [small_few h k, small_few h b] at s
    unfold cc
    omega
/-- the least order of so many things in which the corner counts so many -/
def lst (n m k c : Nat) : List Nat := if c ≤ m + 1 - k then List.range' 1 n else lb n k c (m - c)
structure IsCor (n m k c : Nat) : Prop where
  n1 : 1 ≤ n
  n9 : n ≤ 9
  m1 : 1 ≤ m
  mn : m ≤ n
  k1 : 1 ≤ k
  kn : k ≤ n
  cm : c ≤ m
  ck : k + c ≤ n + 1
theorem ord_lst {n m k c : Nat} (h : IsCor n m k c) : IsOrd (lst n m k c) ∧ (lst n m k c).length = n := by
  unfold lst
  have := h.n1
  have := h.n9
  split
  · exact ⟨ord_up h.n1 h.n9, List.length_range'⟩
  · rename_i e
    have := h.cm
    have hp : m - c + 1 ≤ k := by omega
    exact ⟨ord_lb h.n1 h.n9 h.k1 hp h.ck, lb_len h.k1 hp h.ck⟩
theorem lst_has {n m k c : Nat} (h : IsCor n m k c) : c ≤ cc (lst n m k c) m k := by
  unfold lst
  split
  · rename_i e
    rw [cc_rng, Nat.min_eq_left h.mn]
    have := h.k1
    omega
  · have := lb_has (n := n) (k := k) (c := c) (p := m - c)
    rw [show m - c + c = m by have := h.cm; omega] at this
    exact this
theorem lst_iff {n m k c : Nat} {w : List Nat} (h : IsCor n m k c) (hw : IsOrd w) (hl : w.length = n) : (c ≤ cc w m k) ↔ ∀ q ∈ acs n, cc (lst n m k c) q.1 q.2 ≤ cc w q.1 q.2 := by
  constructor
  · intro hc q hq
    obtain ⟨a1, an, b1, bn⟩ := acs_mem hq
    have low := cc_low hw (a := q.1) (b := q.2) (by omega) b1
    unfold lst
    split
    · rw [cc_rng]
      omega
    · rename_i e
      have := h.cm
      have l1 := cc_less (w := w) m q.1 k
      have l2 := cc_up hw q.1 (b := q.2) h.k1
      rcases lb_le (n := n) (k := k) (c := c) (p := m - c) (a := q.1) (b := q.2) h.k1 (by omega) h.ck an b1 with z | z | z
      · omega
      · omega
      · omega
  · intro hq
    have hm := h.m1
    have z := hq (m, k) (by
      unfold acs
      refine List.mem_flatMap.mpr ⟨m - 1, List.mem_range.mpr (by have := h.mn; omega), List.mem_map.mpr ⟨k - 1, List.mem_range.mpr (by have := h.kn; have := h.k1; omega), ?_⟩⟩
      have := h.k1
      exact Prod.ext (by show m - 1 + 1 = m; omega) (by show k - 1 + 1 = k; omega))
    have := lst_has h
    exact Nat.le_trans this z

def Ess (w : List Nat) (q : Nat × Nat) : Prop := 1 ≤ q.1 ∧ q.1 < w.length ∧ 2 ≤ q.2 ∧ q.2 ≤ w.length ∧ w.getD (q.1 - 1) 0 < q.2 ∧ q.2 ≤ w.getD q.1 0 ∧ q.1 ≤ w.idxOf q.2 ∧ w.idxOf (q.2 - 1) < q.1
instance (w : List Nat) (q : Nat × Nat) : Decidable (Ess w q) := by unfold Ess; exact inferInstance
def due (w : List Nat) : List (Nat × Nat) := (acs w.length).filter fun q => decide (Ess w q)
theorem acs_has {n a b : Nat} (a1 : 1 ≤ a) (an : a ≤ n) (b1 : 1 ≤ b) (bn : b ≤ n) : (a, b) ∈ acs n := by
  unfold acs
  exact List.mem_flatMap.mpr ⟨a - 1, List.mem_range.mpr (by omega), List.mem_map.mpr ⟨b - 1, List.mem_range.mpr (by omega), Prod.ext (by show a - 1 + 1 = a; omega) (by show b - 1 + 1 = b; omega)⟩⟩
theorem mem_due {w : List Nat} {q : Nat × Nat} : q ∈ due w ↔ Ess w q := by
  unfold due
  rw [List.mem_filter]
  constructor
  · intro h
    exact of_decide_eq_true h.2
  · intro h
    refine ⟨?_, decide_eq_true h⟩
    obtain ⟨h1, h2, h3, h4, _⟩ := h
    exact acs_has (a := q.1) (b := q.2) h1 (by omega) (by omega) h4
theorem cc_place {w : List Nat} {a : Nat} (h : a < w.length) (b : Nat) : cc w (a + 1) b = cc w a b + (if b ≤ w.getD a 0 then 1 else 0) := cc_step (getD_of h) b
theorem cc_le_place (w : List Nat) (a b : Nat) : cc w a b ≤ a := by
  unfold cc
  exact Nat.le_trans (List.length_filter_le _ _) (List.length_take_le _ _)
theorem cc_all {w : List Nat} (h : IsOrd w) (b : Nat) : cc w w.length b = w.length - (b - 1) := by
  unfold cc
  rw [List.take_length, small_few h b]
theorem cc_le_thing {w : List Nat} (h : IsOrd w) (a b : Nat) : cc w a b ≤ w.length - (b - 1) := by
  rw [← small_few h b]
  exact take_few w _ a
theorem cc_thing {w : List Nat} (h : IsOrd w) {b : Nat} (b1 : 1 ≤ b) (bn : b ≤ w.length) : ∀ a, a ≤ w.length → cc w a b = cc w a (b + 1) + (if w.idxOf b < a then 1 else 0)
  | 0, _ => rfl
  | a + 1, ha => by
    have ih := cc_thing h b1 bn a (by omega)
    rw [cc_place (by omega), cc_place (by omega), ih]
    by_cases e : w.getD a 0 = b
    · have i : w.idxOf b = a := by rw [← e]; exact h.idx (by omega)
      rw [i, e, if_pos (Nat.le_refl _), if_neg (Nat.lt_irrefl _), if_neg (by omega), if_pos (by omega)]
    · have i : w.idxOf b ≠ a := fun z => e (by rw [← z]; exact h.idv b1 bn)
      by_cases l : b ≤ w.getD a 0
      · rw [if_pos l, if_pos (show b + 1 ≤ w.getD a 0 by omega)]
        by_cases j : w.idxOf b < a
        · rw [if_pos j, if_pos (by omega)]
        · rw [if_neg j, if_neg (by omega)]
      · rw [if_neg l, if_neg (show ¬ b + 1 ≤ w.getD a 0 by omega)]
        by_cases j : w.idxOf b < a
        · rw [if_pos j, if_pos (by omega)]
        · rw [if_neg j, if_neg (by omega)]
theorem cc_one {w : List Nat} (h : IsOrd w) {a : Nat} (ha : a ≤ w.length) : cc w a 1 = a := by
  have l := cc_low h ha (b := 1) (Nat.le_refl _)
  have u := cc_le_place w a 1
  omega
section
variable {v w : List Nat} (hv : IsOrd v) (hw : IsOrd w) (hl : v.length = w.length) (h : ∀ q, Ess w q → cc v q.1 q.2 ≤ cc w q.1 q.2)
include hv hw hl h
theorem ess_two : ∀ N a b, a + (w.length + 1 - b) ≤ N → a < w.length → b ≤ w.getD a 0 → 2 ≤ b → w.idxOf (b - 1) < a → cc w a b < cc v a b → False
  | 0, a, b, hN, ha, hb, b2, near, viol => by
    have z := cc_le_place v a b
    omega
  | N + 1, a, b, hN, ha, hb, b2, near, viol => by
    have a1 : 1 ≤ a := by
      have z := cc_le_place v a b
      omega
    have bn : b ≤ w.length := Nat.le_trans hb (hw.sm ha).2
    by_cases l : b ≤ w.getD (a - 1) 0
    · refine ess_two N (a - 1) b (by omega) (by omega) l b2 ?_ ?_
      · have : w.idxOf (b - 1) ≠ a - 1 := fun z => by
          have e := hw.idv (v := b - 1) (by omega) (by omega)
          rw [z] at e
          omega
        omega
      · have e1 := cc_place (w := w) (a := a - 1) (by omega) b
        have e2 := cc_place (w := v) (a := a - 1) (by omega) b
        rw [show a - 1 + 1 = a by omega] at e1 e2
        rw [if_pos l] at e1
        split at e2 <;> omega
    · by_cases u : w.idxOf b < a
      · have e1 := cc_thing hw (b := b) (by omega) bn a (by omega)
        have e2 := cc_thing hv (b := b) (by omega) (by omega) a (by omega)
        rw [if_pos u] at e1
        refine ess_two N a (b + 1) (by omega) ha ?_ (by omega) (by rw [Nat.add_sub_cancel]; exact u) (by split at e2 <;> omega)
        have : w.getD a 0 ≠ b := fun z => by
          rw [← z, hw.idx ha] at u
          omega
        omega
      · have := h (a, b) ⟨a1, ha, b2, bn, by show w.getD (a - 1) 0 < b; omega, hb, by show a ≤ w.idxOf b; omega, near⟩
        have t : cc v a b ≤ cc w a b := this
        omega
theorem ess_one : ∀ N a b, (w.length - a) + b ≤ N → a ≤ w.length → 1 ≤ b → b ≤ w.length → cc w a b < cc v a b → False
  | 0, a, b, hN, ha, b1, bn, viol => by omega
  | N + 1, a, b, hN, ha, b1, bn, viol => by
    have an : a < w.length := by
      rcases Nat.lt_or_ge a w.length with z | z
      · exact z
      · have e : a = w.length := by omega
        rw [e, cc_all hw, show w.length = v.length from hl.symm, cc_all hv] at viol
        omega
    have b2 : 2 ≤ b := by
      rcases Nat.lt_or_ge b 2 with z | z
      · have e : b = 1 := by omega
        rw [e, cc_one hw ha, cc_one hv (by omega)] at viol
        omega
      · exact z
    by_cases r : w.getD a 0 < b
    · have e1 := cc_place (w := w) (a := a) an b
      have e2 := cc_place (w := v) (a := a) (by omega) b
      rw [if_neg (by omega)] at e1
      exact ess_one N (a + 1) b (by omega) (by omega) b1 bn (by split at e2 <;> omega)
    · by_cases d : a ≤ w.idxOf (b - 1)
      · have e1 := cc_thing hw (b := b - 1) (by omega) (by omega) a ha
        have e2 := cc_thing hv (b := b - 1) (by omega) (by omega) a (by omega)
        rw [show b - 1 + 1 = b by omega] at e1 e2
        rw [if_neg (by omega)] at e1
        exact ess_one N a (b - 1) (by omega) ha (by omega) (by omega) (by split at e2 <;> omega)
      · exact ess_two hv hw hl h _ a b (Nat.le_refl _) an (by omega) b2 (by omega) viol
theorem ess_all (q : Nat × Nat) (hq : q ∈ acs w.length) : cc v q.1 q.2 ≤ cc w q.1 q.2 := by
  obtain ⟨a1, an, b1, bn⟩ := acs_mem hq
  refine Nat.le_of_not_lt fun z => ess_one hv hw hl h _ q.1 q.2 (Nat.le_refl _) an b1 bn z
end
section
variable {w : List Nat} (hw : IsOrd w) {m k : Nat} (e : Ess w (m, k))
include hw e
theorem ess_cor : IsCor w.length m k (cc w m k + 1) ∧ m + 1 - k < cc w m k + 1 := by
  obtain ⟨m1, mn, k2, kn, lo, hi, far, near⟩ := e
  have m1 : 1 ≤ m := m1
  have mn : m < w.length := mn
  have k2 : 2 ≤ k := k2
  have kn : k ≤ w.length := kn
  have far : m ≤ w.idxOf k := far
  have near : w.idxOf (k - 1) < m := near
  have t1 := cc_thing hw (b := k - 1) (by omega) (by omega) m (by omega)
  rw [show k - 1 + 1 = k by omega, if_pos near] at t1
  have t2 := cc_thing hw (b := k) (by omega) kn m (by omega)
  rw [if_neg (by omega)] at t2
  have u1 := cc_le_place w m (k - 1)
  have u2 := cc_le_thing hw m (k + 1)
  have l := cc_low hw (a := m) (b := k) (by omega) (by omega)
  exact ⟨⟨hw.lo, hw.hi, m1, by omega, by omega, kn, by omega, by omega⟩, by omega⟩
theorem ess_exact : cc (lst w.length m k (cc w m k + 1)) m k = cc w m k + 1 := by
  obtain ⟨ic, h⟩ := ess_cor hw e
  generalize cc w m k + 1 = c at ic h
  have := ic.cm
  have := ic.k1
  unfold lst
  rw [if_neg (by omega), cc_lb]
  have e1 : min m (m - c) = m - c := by omega
  have e2 : m - (m - c) = c := by omega
  rw [e1, e2, Nat.min_self, Nat.sub_self c, Nat.zero_min, Nat.zero_sub, Nat.zero_sub, Nat.zero_min, Nat.zero_sub]
  omega
theorem ess_other {a b : Nat} (f : Ess w (a, b)) (ne : (a, b) ≠ (m, k)) : cc (lst w.length m k (cc w m k + 1)) a b ≤ cc w a b := by
  obtain ⟨ic, hc⟩ := ess_cor hw e
  have cm := ic.cm
  have k1 := ic.k1
  obtain ⟨m1, mn, k2, kn, lo, hi, far, near⟩ := e
  have m1 : 1 ≤ m := m1
  have mn : m < w.length := mn
  have lo : w.getD (m - 1) 0 < k := lo
  have hi : k ≤ w.getD m 0 := hi
  have far : m ≤ w.idxOf k := far
  have near : w.idxOf (k - 1) < m := near
  have k2 : 2 ≤ k := k2
  have kn : k ≤ w.length := kn
  obtain ⟨a1, an, b2, bn, _⟩ := f
  have a1 : 1 ≤ a := a1
  have an : a < w.length := an
  have b2 : 2 ≤ b := b2
  have bn : b ≤ w.length := bn
  have low := cc_low hw (a := a) (b := b) (by omega) (by omega)
  unfold lst
  rw [if_neg (by omega)]
  rcases lb_le (n := w.length) (k := k) (c := cc w m k + 1) (p := m - (cc w m k + 1)) (a := a) (b := b) k1 (by omega) ic.ck (by omega) (by omega) with z | z | z
  · omega
  · refine Nat.le_of_not_lt fun viol => ?_
    rw [show m - (cc w m k + 1) + (cc w m k + 1) = m by omega] at z
    by_cases c1 : a < m
    · have s1 := cc_place (w := w) (a := m - 1) (by omega) k
      rw [show m - 1 + 1 = m by omega, if_neg (by omega)] at s1
      have s2 := cc_less (w := w) (m - 1) a k
      have s3 := cc_up hw a (b := b) k1
      omega
    · by_cases c2 : k < b
      · have s1 := cc_thing hw (b := k) k1 kn m (by omega)
        rw [if_neg (by omega)] at s1
        have s2 := cc_up hw m (b := b) (k := k + 1) (by omega)
        have s3 := cc_less (w := w) m a b
        omega
      · by_cases c3 : m < a
        · have s1 := cc_place (w := w) (a := m) mn k
          rw [if_pos hi] at s1
          have s2 := cc_less (w := w) (m + 1) a k
          have s3 := cc_up hw a (b := b) k1
          omega
        · have am : a = m := by omega
          subst am
          have bk : b < k := by
            rcases Nat.lt_or_ge b k with y | y
            · exact y
            · exact absurd (show ((a, b) : Nat × Nat) = (a, k) by rw [show b = k by omega]) ne
          have s1 := cc_thing hw (b := k - 1) (by omega) (by omega) a (by omega)
          rw [show k - 1 + 1 = k by omega, if_pos near] at s1
          have s2 := cc_up hw a (b := b) (k := k - 1) (by omega)
          omega
  · omega
end
theorem at_dn {n k : Nat} (h : k < n) : (dn n).getD k 0 = n - k := at_of (by
  unfold dn
  rw [List.getElem?_map, List.getElem?_range h]
  rfl)
theorem cc_dn (n a b : Nat) (ha : a ≤ n) : cc (dn n) a b = min a (n + 1 - b) := by
  induction a with
  | zero => exact (Nat.zero_min _).symm
  | succ a ih =>
    rw [cc_place (by rw [len_dn]; omega), ih (by omega), at_dn (by omega)]
    split <;> omega
theorem due_nil {w : List Nat} (hw : IsOrd w) : due w = [] ↔ w = dn w.length := by
  constructor
  · intro e
    have hn := hw.lo
    have hv := ord_dn hw.lo hw.hi
    have le : ∀ a b, 1 ≤ a → a ≤ w.length → 1 ≤ b → b ≤ w.length → cc (dn w.length) a b ≤ cc w a b := fun a b a1 an b1 bn => by
      refine ess_all hv hw (len_dn _) (fun q hq => ?_) (a, b) (acs_has a1 an b1 bn)
      have := mem_due.mpr hq
      rw [e] at this
      cases this
    refine ext_at (by rw [len_dn]) fun k hk => ?_
    rw [at_dn hk]
    induction k using Nat.strongRecOn with
    | ind k ih =>
      have z := le (k + 1) (w.length - k) (by omega) (by omega) (by omega) (by omega)
      rw [cc_dn _ _ _ (by omega), cc_place hk] at z
      have u := cc_le_place w k (w.length - k)
      have ge : w.length - k ≤ w.getD k 0 := by
        split at z
        · assumption
        · omega
      have sm := hw.sm hk
      refine Nat.le_antisymm (Nat.le_of_not_lt fun gt => ?_) ge
      have j : w.length - w.getD k 0 < k := by omega
      have ej := ih (w.length - w.getD k 0) j (by omega)
      have := hw.inj (i := w.length - w.getD k 0) (j := k) (by omega) hk (by rw [ej]; omega)
      omega
  · intro e
    refine List.eq_nil_iff_forall_not_mem.mpr fun q hq => ?_
    obtain ⟨h1, h2, h3, h4, h5, h6, _⟩ := mem_due.mp hq
    rw [e, at_dn (by omega)] at h5
    rw [e, at_dn h2] at h6
    omega
theorem idx_und {w : List Nat} (hw : IsOrd w) {t : Nat} (t1 : 1 ≤ t) (tn : t ≤ w.length) : (und w).idxOf t = w.getD (t - 1) 0 - 1 := by
  have hu := ord_und hw
  have sm := hw.sm (k := t - 1) (by omega)
  have e := und_at hw (k := t - 1) (by omega)
  have z := hu.idx (k := w.getD (t - 1) 0 - 1) (by rw [len_und]; omega)
  rw [e, show t - 1 + 1 = t by omega] at z
  exact z
theorem ess_und {w : List Nat} (hw : IsOrd w) {a b : Nat} : Ess (und w) (a, b) ↔ Ess w (b - 1, a + 1) ∧ 2 ≤ b := by
  unfold Ess
  simp only [len_und]
  constructor
  · rintro ⟨h1, h2, h3, h4, h5, h6, h7, h8⟩
    rw [at_und (by omega), show a - 1 + 1 = a by omega] at h5
    rw [at_und h2] at h6
    rw [idx_und hw (by omega) h4] at h7
    rw [idx_und hw (by omega) (by omega)] at h8
    have s1 := hw.sm (k := b - 1) (by omega)
    have s2 := hw.sm (k := b - 1 - 1) (by omega)
    refine ⟨⟨by omega, by omega, by omega, by omega, by omega, by omega, by omega, ?_⟩, h3⟩
    rw [Nat.add_sub_cancel]
    omega
  · rintro ⟨⟨h1, h2, h3, h4, h5, h6, h7, h8⟩, b2⟩
    rw [Nat.add_sub_cancel] at h8
    refine ⟨by omega, by omega, by omega, by omega, ?_, ?_, ?_, ?_⟩
    · rw [at_und (by omega), show a - 1 + 1 = a by omega]
      omega
    · rw [at_und (by omega)]
      omega
    · rw [idx_und hw (by omega) (by omega)]
      omega
    · rw [idx_und hw (by omega) (by omega)]
      omega
def LexLt (p q : Nat × Nat) : Prop := p.1 < q.1 ∨ (p.1 = q.1 ∧ p.2 < q.2)
theorem acs_lex (n : Nat) : (acs n).Pairwise LexLt := by
  unfold acs
  rw [List.pairwise_flatMap]
  refine ⟨fun a _ => ?_, ?_⟩
  · rw [List.pairwise_map]
    exact List.pairwise_lt_range.imp fun h => .inr ⟨rfl, by show _ + 1 < _ + 1; omega⟩
  · refine List.pairwise_lt_range.imp fun h p hp q hq => ?_
    obtain ⟨x, _, rfl⟩ := List.mem_map.mp hp
    obtain ⟨y, _, rfl⟩ := List.mem_map.mp hq
    exact .inl (by show _ + 1 < _ + 1; omega)
theorem due_lex (w : List Nat) : (due w).Pairwise LexLt := (acs_lex _).filter _
theorem lex_nodup {l : List (Nat × Nat)} (h : l.Pairwise LexLt) : l.Nodup := h.imp fun {a b} h e => by
  subst e
  unfold LexLt at h
  omega
def back (w : List Nat) : List (Nat × Nat) := (due w).map fun q => (q.2 - 1, q.1 + 1)
theorem back_perm {w : List Nat} (hw : IsOrd w) : (back w).Perm (due (und w)) := by
  have n1 : (back w).Nodup := by
    unfold back
    refine List.Pairwise.map _ (fun a b h => ?_) (List.Pairwise.imp_of_mem (S := fun a b => a ≠ b ∧ 2 ≤ a.2 ∧ 2 ≤ b.2) (fun {a b} ha hb h => ⟨h, (mem_due.mp ha).2.2.1, (mem_due.mp hb).2.2.1⟩) (lex_nodup (due_lex w)))
    intro e
    obtain ⟨ne, a2, b2⟩ := h
    have e1 : a.2 - 1 = b.2 - 1 := congrArg Prod.fst e
    have e2 : a.1 + 1 = b.1 + 1 := congrArg Prod.snd e
    exact ne (Prod.ext (by omega) (by omega))
  have n2 := lex_nodup (due_lex (und w))
  refine (List.perm_ext_iff_of_nodup n1 n2).mpr fun q => ?_
  unfold back
  rw [List.mem_map, mem_due]
  constructor
  · rintro ⟨p, hp, rfl⟩
    have h := mem_due.mp hp
    have h1 : 1 ≤ p.1 := h.1
    have h2 : 2 ≤ p.2 := h.2.2.1
    refine (ess_und hw (a := p.2 - 1) (b := p.1 + 1)).mpr ⟨?_, by omega⟩
    rw [Nat.add_sub_cancel, show p.2 - 1 + 1 = p.2 by omega]
    exact h
  · intro h
    obtain ⟨h1, b2⟩ := (ess_und hw (a := q.1) (b := q.2)).mp h
    exact ⟨(q.2 - 1, q.1 + 1), mem_due.mpr h1, Prod.ext (by show q.1 + 1 - 1 = q.1; omega) (by show q.2 - 1 + 1 = q.2; omega)⟩
/-- sorted in the sequence of Python -/
theorem back_sorted {w : List Nat} (hw : IsOrd w) {l : List (Nat × Nat)} (hp : l.Perm (back w)) (hs : l.Pairwise fun p q => ¬ LexLt q p) : l = due (und w) := by
  refine List.Perm.eq_of_pairwise (le := fun p q => ¬ LexLt q p) (fun a b _ _ h1 h2 => ?_) hs ((due_lex (und w)).imp fun {a b} h => ?_) (hp.trans (back_perm hw))
  · unfold LexLt at h1 h2
    exact Prod.ext (by omega) (by omega)
  · unfold LexLt at h ⊢
    omega
def inner (n : Nat) : List (Nat × Nat) := (List.range (n - 1)).flatMap fun a => (List.range (n - 1)).map fun b => (a + 1, b + 2)
theorem inner_due (w : List Nat) (h : 1 ≤ w.length) : (inner w.length).filter (fun q => decide (Ess w q)) = due w := by
  unfold inner due acs
  obtain ⟨n, hn⟩ : ∃ n, w.length = n + 1 := ⟨w.length - 1, by omega⟩
  have row : ∀ a, ((List.range w.length).map fun b => (a + 1, b + 1)).filter (fun q => decide (Ess w q)) = ((List.range (w.length - 1)).map fun b => (a + 1, b + 2)).filter fun q => decide (Ess w q) := fun a => by
    rw [hn, Nat.add_sub_cancel, List.range_succ_eq_map, List.map_cons, List.map_map, List.filter_cons_of_neg (by
      rw [decide_eq_false (fun e => by
        have : 2 ≤ 0 + 1 := e.2.2.1
        omega)]
      exact Bool.false_ne_true)]
    rfl
  rw [List.filter_flatMap, List.filter_flatMap]
  have e : List.range w.length = List.range (w.length - 1) ++ [w.length - 1] := by
    rw [hn, Nat.add_sub_cancel, List.range_succ]
  rw [show (List.range w.length).flatMap (fun a => ((List.range w.length).map fun b => (a + 1, b + 1)).filter fun q => decide (Ess w q)) = (List.range w.length).flatMap (fun a => ((List.range (w.length - 1)).map fun b => (a + 1, b + 2)).filter fun q => decide (Ess w q)) from congrArg (fun f => (List.range w.length).flatMap f) (funext row)]
  rw [e, List.flatMap_append, List.flatMap_cons, List.flatMap_nil, List.append_nil]
  have z : ((List.range (w.length - 1)).map fun b => (w.length - 1 + 1, b + 2)).filter (fun q => decide (Ess w q)) = [] := List.filter_eq_nil_iff.mpr fun q hq => by
    obtain ⟨b, _, rfl⟩ := List.mem_map.mp hq
    rw [decide_eq_false (fun e => by
      have : w.length - 1 + 1 < w.length := e.2.1
      omega)]
    exact Bool.false_ne_true
  rw [z, List.append_nil]

theorem take_take_succ {o : List Nat} {m j t : Nat} (h : (o.take m)[j]? = some t) (k : Nat) : (((o.take m).take (j + 1)).filter fun t => decide (k ≤ t)).length = (((o.take m).take j).filter fun t => decide (k ≤ t)).length + (if k ≤ t then 1 else 0) := by
  rw [take_snoc h, List.filter_append, List.length_append]
  congr 1
  rw [List.filter_cons, List.filter_nil]
  by_cases e : k ≤ t
  · rw [if_pos (decide_eq_true e), if_pos e]
    rfl
  · rw [if_neg (by rw [decide_eq_false e]; exact Bool.false_ne_true), if_neg e]
    rfl
theorem idx_lt {w : List Nat} (t m : Nat) : (w.idxOf t < m ∧ t ∈ w) ↔ t ∈ w.take m := by
  constructor
  · rintro ⟨h, ht⟩
    rw [List.mem_take_iff_getElem]
    exact ⟨w.idxOf t, by have := List.idxOf_lt_length_iff.mpr ht; omega, List.getElem_idxOf _⟩
  · intro h
    have ht := List.mem_of_mem_take h
    refine ⟨?_, ht⟩
    rw [← List.take_append_drop m w, List.idxOf_append, if_pos h]
    have := List.idxOf_lt_length_iff.mpr h
    have := List.length_take_le m w
    omega
theorem mem_tk {w : List Nat} (hw : IsOrd w) {t m : Nat} (t1 : 1 ≤ t) (tn : t ≤ w.length) : t ∈ w.take m ↔ w.idxOf t < m := ⟨fun h => ((idx_lt t m).mpr h).1, fun h => (idx_lt t m).mp ⟨h, hw.mem t1 tn⟩⟩
theorem mem_dp {w : List Nat} (hw : IsOrd w) {t m : Nat} (t1 : 1 ≤ t) (tn : t ≤ w.length) : t ∈ w.drop m ↔ m ≤ w.idxOf t := by
  have ht := hw.mem t1 tn
  have nd : (w.take m ++ w.drop m).Nodup := by
    rw [List.take_append_drop]
    exact hw.perm.nodup_iff.mpr (List.nodup_range' ..)
  have e : t ∈ w.take m ∨ t ∈ w.drop m := by
    rw [← List.mem_append, List.take_append_drop]
    exact ht
  constructor
  · intro h
    refine Nat.le_of_not_lt fun z => ?_
    exact (List.nodup_append.mp nd).2.2 t ((mem_tk hw t1 tn).mpr z) t h rfl
  · intro h
    rcases e with e | e
    · have := (mem_tk hw t1 tn).mp e
      omega
    · exact e
section
theorem inTo_more (n i j : Nat) : ((List.range i).flatMap fun a => (List.range n).map fun b => (a + 1, b + 2)) ++ (List.range (j + 1)).map (fun b => (i + 1, b + 2)) = (((List.range i).flatMap fun a => (List.range n).map fun b => (a + 1, b + 2)) ++ (List.range j).map fun b => (i + 1, b + 2)) ++ [(i + 1, j + 2)] := by
  rw [List.range_succ (n := j), List.map_append, List.append_assoc]
  rfl
def inTo (n i j : Nat) : List (Nat × Nat) := ((List.range i).flatMap fun a => (List.range n).map fun b => (a + 1, b + 2)) ++ (List.range j).map fun b => (i + 1, b + 2)
theorem inTo_next (n i : Nat) : inTo n (i + 1) 0 = inTo n i n := by
  unfold inTo
  rw [List.range_succ, List.flatMap_append, List.flatMap_cons, List.flatMap_nil, List.append_nil, List.range_zero, List.map_nil, List.append_nil]
theorem inTo_end (n : Nat) : inTo (n - 1) (n - 1) 0 = inner n := by
  unfold inTo inner
  rw [List.range_zero, List.map_nil, List.append_nil]
theorem inTo_le {n i j : Nat} (hn : n ≤ 9) (hi : i ≤ 9) (hj : j ≤ 9) : (inTo n i j).length ≤ 90 := by
  unfold inTo
  rw [List.length_append, List.length_map, List.length_range]
  have h1 := flat_le (f := fun a => (List.range n).map fun b => (a + 1, b + 2)) (c := 9) (fun a => by rw [List.length_map, List.length_range]; omega) (List.range i)
  rw [List.length_range] at h1
  omega
theorem inner_mem {n : Nat} {q : Nat × Nat} (h : q ∈ inner n) : 1 ≤ q.1 ∧ q.1 < n ∧ 2 ≤ q.2 ∧ q.2 ≤ n := by
  unfold inner at h
  obtain ⟨a, ha, hq⟩ := List.mem_flatMap.mp h
  obtain ⟨b, hb, rfl⟩ := List.mem_map.mp hq
  have h1 := List.mem_range.mp ha
  have h2 := List.mem_range.mp hb
  exact ⟨by show 1 ≤ a + 1; omega, by show a + 1 < n; omega, by show 2 ≤ b + 2; omega, by show b + 2 ≤ n; omega⟩
end

section
theorem fst4_skip {o : List Nat} : ∀ {L : List (List Nat)} {i : Nat}, (∀ j, j < i → ∀ u, L[j]? = some u → stds o u = []) → fst4 o L = fst4 o (L.drop i)
  | [], i, _ => by rw [List.drop_nil]
  | u :: r, 0, _ => rfl
  | u :: r, i + 1, h => by
    have e := h 0 (Nat.succ_pos _) u rfl
    have z : fst4 o (u :: r) = fst4 o r := by
      show (match stds o u with | [] => fst4 o r | x :: _ => some (u, x)) = _
      rw [e]
    rw [z, List.drop_succ_cons]
    exact fst4_skip fun j hj v hv => h (j + 1) (Nat.succ_lt_succ hj) v hv
theorem fst4_at {o : List Nat} {L : List (List Nat)} {i : Nat} {u x : List Nat} {s : List (List Nat)} (h : ∀ j, j < i → ∀ u, L[j]? = some u → stds o u = []) (hu : L[i]? = some u) (e : stds o u = x :: s) : fst4 o L = some (u, x) := by
  rw [fst4_skip h]
  obtain ⟨hi, rfl⟩ := List.getElem?_eq_some_iff.mp hu
  rw [List.drop_eq_getElem_cons hi]
  show (match stds o L[i] with | [] => fst4 o _ | x :: _ => some (L[i], x)) = _
  rw [e]
end

def kw2 {α : Type} : List α → List α → List α
  | [], [a, b] => [b, a]
  | _, _ => []
theorem stds_in {o w ps : List Nat} (h : ps ∈ stds o w) : ps.length = w.length ∧ (∀ p ∈ ps, p < o.length) ∧ low (at_ o ps) = w := by
  unfold stds at h
  obtain ⟨h1, h2⟩ := List.mem_filter.mp h
  exact ⟨chs_mem h1, fun p hp => List.mem_range.mp (chs_lt h1 p hp), of_decide_eq_true h2⟩
theorem cntApp (a b : List Nat) (x : Nat) : cnt (a ++ b) x = cnt a x + cnt b x := by
  unfold cnt
  rw [List.filter_append, List.length_append]
theorem cnt_split (l : List Nat) (k : Nat) : cnt l k + (l.filter fun t => decide (k ≤ t)).length = l.length := by
  unfold cnt
  induction l with
  | nil => rfl
  | cons a r ih =>
    by_cases c : a < k
    · rw [List.filter_cons_of_pos (by exact decide_eq_true c), List.filter_cons_of_neg (by simp; omega), List.length_cons, List.length_cons]
      omega
    · rw [List.filter_cons_of_neg (by exact fun z => c (of_decide_eq_true z)), List.filter_cons_of_pos (by simp; omega), List.length_cons, List.length_cons]
      omega
/-- how many lesser things stand behind -/
theorem behind {o : List Nat} (io : IsOrd o) {m k : Nat} (hm : m ≤ o.length) (k1 : 1 ≤ k) (kn : k ≤ o.length) : cnt (o.drop m) k + m = k - 1 + cc o m k := by
  have e := cntApp (o.take m) (o.drop m) k
  rw [List.take_append_drop, cnt_perm io.perm, cnt_up o.length k k1 (by omega)] at e
  have s := cnt_split (o.take m) k
  rw [List.length_take] at s
  have c : cc o m k = ((o.take m).filter fun t => decide (k ≤ t)).length := rfl
  omega
theorem big_iff {o : List Nat} {m k : Nat} (hm : m ≤ o.length) : (∃ x, x < m ∧ k ≤ o.getD x 0) ↔ 0 < cc o m k := by
  unfold cc
  rw [List.length_pos_iff_exists_mem]
  constructor
  · rintro ⟨x, xm, hx⟩
    refine ⟨o.getD x 0, List.mem_filter.mpr ⟨?_, decide_eq_true hx⟩⟩
    have g := getD_of (o := o) (i := x) (by omega)
    refine List.mem_of_getElem? (i := x) ?_
    rw [List.getElem?_take_of_lt xm]
    exact g
  · rintro ⟨t, ht⟩
    obtain ⟨h1, h2⟩ := List.mem_filter.mp ht
    obtain ⟨x, hx⟩ := List.getElem?_of_mem h1
    have xl := (List.getElem?_eq_some_iff.mp hx).1
    rw [List.length_take] at xl
    rw [List.getElem?_take_of_lt (by omega)] at hx
    refine ⟨x, by omega, ?_⟩
    rw [at_of hx]
    exact of_decide_eq_true h2
theorem sml_iff {o : List Nat} {m k : Nat} : (∃ y, m ≤ y ∧ y < o.length ∧ o.getD y 0 < k) ↔ 0 < cnt (o.drop m) k := by
  unfold cnt
  rw [List.length_pos_iff_exists_mem]
  constructor
  · rintro ⟨y, ym, yn, hy⟩
    refine ⟨o.getD y 0, List.mem_filter.mpr ⟨?_, decide_eq_true hy⟩⟩
    refine List.mem_of_getElem? (i := y - m) ?_
    rw [List.getElem?_drop, show m + (y - m) = y by omega]
    exact getD_of yn
  · rintro ⟨t, ht⟩
    obtain ⟨h1, h2⟩ := List.mem_filter.mp ht
    obtain ⟨y, hy⟩ := List.getElem?_of_mem h1
    rw [List.getElem?_drop] at hy
    refine ⟨m + y, by omega, (List.getElem?_eq_some_iff.mp hy).1, ?_⟩
    rw [at_of hy]
    exact of_decide_eq_true h2
/-- no greater thing ahead, or no lesser one behind -/
theorem tight {o : List Nat} (io : IsOrd o) {m k : Nat} (hm : m ≤ o.length) (k1 : 1 ≤ k) (kn : k ≤ o.length) (h : ¬ m + 1 - k < cc o m k) : (∀ x, x < m → o.getD x 0 < k) ∨ (∀ y, m ≤ y → y < o.length → k ≤ o.getD y 0) := by
  have e := behind io hm k1 kn
  rcases Nat.eq_zero_or_pos (cc o m k) with z | z
  · refine .inl fun x xm => ?_
    rcases Nat.lt_or_ge (o.getD x 0) k with c | c
    · exact c
    · have := (big_iff hm).mp ⟨x, xm, c⟩
      omega
  · refine .inr fun y my yn => ?_
    rcases Nat.lt_or_ge (o.getD y 0) k with c | c
    · have := sml_iff.mp ⟨y, my, yn, c⟩
      omega
    · exact c

theorem due_small {w : List Nat} (h : w.length ≤ 9) : (∀ p ∈ due w, p.1 < 100 ∧ p.2 < 100) ∧ (due w).length ≤ 81 := by
  refine ⟨fun p hp => ?_, ?_⟩
  · obtain ⟨_, h2, _, h4, _⟩ := mem_due.mp hp
    omega
  · unfold due
    refine Nat.le_trans (List.length_filter_le _ _) ?_
    unfold acs
    have h1 := flat_le (f := fun a => (List.range w.length).map fun b => (a + 1, b + 1)) (c := 9) (fun a => by rw [List.length_map, List.length_range]; exact h) (List.range w.length)
    rw [List.length_range] at h1
    omega

/-- the corners that matter and are loose -/
def loo (o : List Nat) : List (Nat × Nat) := (due o).filter fun q => decide (q.1 + 1 - q.2 < cc o q.1 q.2)
section
theorem inTo_snoc (n i j : Nat) : inTo n i (j + 1) = inTo n i j ++ [(i + 1, j + 2)] := inTo_more n i j
end

theorem fold_min : ∀ (r : List Int) (a : Int), r.foldl min a ∈ a :: r
  | [], a => .head _
  | b :: r, a => by
    rw [List.foldl_cons]
    rcases List.mem_cons.mp (fold_min r (min a b)) with e | e
    · rw [e]
      rcases Int.le_total a b with c | c
      · rw [Int.min_eq_left c]
        exact .head _
      · rw [Int.min_eq_right c]
        exact .tail _ (.head _)
    · exact .tail _ (.tail _ e)
theorem fold_max : ∀ (r : List Int) (a : Int), r.foldl max a ∈ a :: r
  | [], a => .head _
  | b :: r, a => by
    rw [List.foldl_cons]
    rcases List.mem_cons.mp (fold_max r (max a b)) with e | e
    · rw [e]
      rcases Int.le_total a b with c | c
      · rw [Int.max_eq_right c]
        exact .tail _ (.head _)
      · rw [Int.max_eq_left c]
        exact .head _
    · exact .tail _ (.tail _ e)
theorem ints_mem {k : Nat} {r : List Nat} {z : Int} (h : z ∈ (k : Int) :: r.map fun z : Nat => (z : Int)) : ∃ t ∈ k :: r, z = (t : Int) := by
  rcases List.mem_cons.mp h with e | e
  · exact ⟨k, .head _, e⟩
  · obtain ⟨t, ht, e⟩ := List.mem_map.mp e
    exact ⟨t, .tail _ ht, e.symm⟩
/-- each thing lies between some thing from its place on and some up to it -/
def On1 (o p : List Nat) (x : Nat) : Prop := (∃ y, x ≤ y ∧ y < o.length ∧ o.getD y 0 ≤ p.getD x 0) ∧ ∃ y, y ≤ x ∧ p.getD x 0 ≤ o.getD y 0
theorem off_board {o : List Nat} (io : IsOrd o) {m k : Nat} (e : Ess o (m, k)) (nl : (m, k) ∉ loo o) : ¬ ∀ x, x < o.length → On1 o (lst o.length m k (cc o m k + 1)) x := by
  intro on
  obtain ⟨ic, hc⟩ := ess_cor io e
  have ex := ess_exact io e
  obtain ⟨m1, mn, k2, kn, _⟩ := e
  have m1 : 1 ≤ m := m1
  have mn : m < o.length := mn
  have k2 : 2 ≤ k := k2
  have kn : k ≤ o.length := kn
  have nl' : ¬ m + 1 - k < cc o m k := fun z => nl (List.mem_filter.mpr ⟨mem_due.mpr ⟨m1, mn, k2, kn, by assumption⟩, decide_eq_true z⟩)
  obtain ⟨il, ll⟩ := ord_lst ic
  generalize lst o.length m k (cc o m k + 1) = p at on ex il ll
  rcases tight io (by omega) (by omega) kn nl' with h | h
  · obtain ⟨x, xm, hx⟩ := (big_iff (o := p) (m := m) (k := k) (by omega)).mpr (by omega)
    obtain ⟨_, y, yx, hy⟩ := on x (by omega)
    have := h y (by omega)
    omega
  · have b1 := behind il (m := m) (k := k) (by omega) (by omega) (by omega)
    have b2 := behind io (m := m) (k := k) (by omega) (by omega) (by omega)
    obtain ⟨y, ym, yn, hy⟩ := (sml_iff (o := p) (m := m) (k := k)).mpr (by omega)
    obtain ⟨⟨z, yz, zn, hz⟩, _⟩ := on y (by omega)
    have := h z (by omega) zn
    omega
end Pm

set_option Elab.async false
set_option linter.all false
set_option maxRecDepth 100000
set_option maxHeartbeats 4000000
namespace Pm
theorem loose_iff {o : List Nat} (io : IsOrd o) {m k : Nat} : Loose o m k ↔ (m, k) ∈ loo o := by
  unfold loo
  rw [List.mem_filter, mem_due]
  constructor
  · rintro ⟨m1, mn, k2, kn, ha, hb, hr, hl, hx, hy⟩
    refine ⟨⟨m1, mn, k2, kn, ha, hb, hr, hl⟩, decide_eq_true ?_⟩
    have b1 := (big_iff (by omega)).mp hx
    have s1 := sml_iff.mp hy
    have e := behind io (m := m) (k := k) (by omega) (by omega) kn
    show m + 1 - k < cc o m k
    omega
  · rintro ⟨⟨m1, mn, k2, kn, ha, hb, hr, hl⟩, h⟩
    have h : m + 1 - k < cc o m k := of_decide_eq_true h
    have e := behind io (m := m) (k := k) (Nat.le_of_lt mn) (by have : 2 ≤ k := k2; omega) kn
    have m1 : 1 ≤ m := m1
    have mn : m < o.length := mn
    have k2 : 2 ≤ k := k2
    have q1 : 0 < cc o m k := by omega
    have q2 : 0 < cnt (o.drop m) k := by omega
    exact ⟨m1, mn, k2, kn, ha, hb, hr, hl, (big_iff (by omega)).mpr q1, sml_iff.mpr q2⟩
/-- none is loose exactly if none of the four ways stands -/
theorem loo_free {o : List Nat} (io : IsOrd o) : loo o = [] ↔ Free o := by
  rw [free_loose io]
  constructor
  · rintro e ⟨m, k, h⟩
    have := (loose_iff io).mp h
    rw [e] at this
    cases this
  · intro h
    cases e : loo o with
    | nil => rfl
    | cons q r => exact absurd ⟨q.1, q.2, (loose_iff io).mpr (by rw [e]; exact .head _)⟩ h
theorem loo_fr {o : List Nat} (io : IsOrd o) : (loo o).isEmpty = fr o := by
  rw [Bool.eq_iff_iff, fr_iff, ← loo_free io, List.isEmpty_iff]
end Pm

set_option Elab.async false
set_option linter.all false
set_option maxRecDepth 100000
set_option maxHeartbeats 1000000
namespace Pv
open PySem PySem.Spec L2 Pm

theorem isOrdB_of {o : List Nat} (h : IsOrd o) : isOrdB o = true := by
  unfold isOrdB
  simp [h.lo, h.hi, List.isPerm_iff.mpr h.perm]
/-! ### judges -/
theorem s_isord {d : D} {o : List Nat} (h : Sqd d o) (io : IsOrd o) : p_is_order [d] = some (.bool true) := by
  unfold p_is_order
  simp only [natsD_sq h, Option.bind_some, isOrdB_of io, if_true]
theorem s_chk {d : D} {o : List Nat} (h : Sqd d o) (io : IsOrd o) : p_check_order [d] = some .none := by
  simp [p_check_order, fnH, argsE, g_check_order, s_isord h io]
theorem s_isint (i : Int) : p_is_integer [.int i] = some (.bool true) := by rfl
theorem s_within (v lo hi : Int) : p_is_within_bounds [.int v, .int lo, .int hi] = some (.bool (decide (lo ≤ v) && decide (v ≤ hi))) := by
  by_cases c : lo ≤ v <;> simp [p_is_within_bounds, fnH, argsE, g_is_within_bounds, s_isint, c]
theorem s_chkn {v lo hi : Int} (h1 : lo ≤ v) (h2 : v ≤ hi) : p_check_number [.int v, .int lo, .int hi] = some .none := by
  simp [p_check_number, fnH, argsE, g_check_number, s_within, h1, h2]
theorem s_chkm {n : Int} (h1 : 1 ≤ n) (h2 : n ≤ 9) : p_check_many [.int n] = some .none := by
  simp [p_check_many, fnH, argsE, g_check_many, s_chkn h1 h2]
theorem s_awb {d : D} {o : List Nat} {lo hi : Int} (h : Sqd d o) (hb : ∀ k ∈ o, lo ≤ (k : Int) ∧ (k : Int) ≤ hi) : p_are_within_bounds [d, .int lo, .int hi] = some (.bool true) := by
  unfold p_are_within_bounds
  simp only [natsD_sq h, Option.bind_some]
  rw [if_pos]
  simpa using hb
/-! ### corners -/
abbrev cD (q : Nat × Nat) : D := .tuple [nI q.1, nI q.2]
theorem cD_sq (m k : Nat) : Sqd (cD (m, k)) [m, k] := .inr rfl
theorem s_pair {m k : Nat} {lo hi : Int} (h1 : lo ≤ m) (h2 : (m : Int) ≤ hi) (h3 : lo ≤ k) (h4 : (k : Int) ≤ hi) : p_is_pair [cD (m, k), .int lo, .int hi] = some (.bool true) := by
  have e : p_is_tuple_of [cD (m, k), .int 2] = some (.bool true) := by rfl
  simp [p_is_pair, fnH, argsE, g_is_pair, e, s_awb (cD_sq m k) (lo := lo) (hi := hi) (by simp [h1, h2, h3, h4])]
theorem s_chkc {m k n : Nat} (m1 : 1 ≤ m) (mn : m ≤ n) (k1 : 1 ≤ k) (kn : k ≤ n) : p_check_corner [nI n, cD (m, k)] = some .none := by
  simp [p_check_corner, fnH, argsE, g_check_corner, s_pair (m := m) (k := k) (lo := 1) (hi := n) (by omega) (by omega) (by omega) (by omega)]
theorem s_counted {d : D} {o : List Nat} (h : Sqd d o) (io : IsOrd o) {m k : Nat} (m1 : 1 ≤ m) (mn : m ≤ o.length) (k1 : 1 ≤ k) (kn : k ≤ o.length) : p_counted [d, cD (m, k)] = some (nI (cc o m k)) := by
  obtain ⟨e, he, se⟩ := cut_toS h mn (z := (m : Int)) rfl
  have b := io.hi
  simp [p_counted, fnH, argsE, g_counted, s_chk h io, dLen_sq h, s_chkc m1 mn k1 kn, he, seqD_sq se]
  rw [lcB_filter nI (fun t => decide (k ≤ t)) nI (o.take m)]
  · simp [cc]
  · rfl
  · simp; omega
  · simp
  · intro y hy
    by_cases c : k ≤ y <;> simp [stepLc, c]
end Pv

set_option Elab.async false
set_option linter.all false
set_option maxRecDepth 100000
set_option maxHeartbeats 1000000
namespace Pv
open PySem PySem.Spec PyProof.Rows L2 Lb

/-! ### is True, is not False -/
def dIsB (d e : D) : Option D := match d, e with
  | .bool a, .bool b => some (.bool (decide (a = b)))
  | _, _ => none
def dNotB (d e : D) : Option D := match d, e with
  | .bool a, .bool b => some (.bool (!decide (a = b)))
  | _, _ => none
section
variable {K : PySem.W.Frag} {T : Addr → Prop}
theorem rep_bool {B : Addr → Prop} {a : Sx} {v : V} {b : Bool} (o : Ok K T B a) (h : RepB K a v (.bool b)) : v = .bl b := by
  cases h.dp o
  rfl
theorem os_isB : OpS K T (fun x y H Q => ∃ a b, x = .bl a ∧ y = .bl b ∧ Q (.bl (decide (a = b))) H) dIsB := fun B a v u d e z Q o rv ru ef k => by
  unfold dIsB at ef
  split at ef
  · cases ef
    exact ⟨_, _, rep_bool o rv, rep_bool o ru, k _ a.g a.h o .refl (.bl _)⟩
  · cases ef
theorem os_notB : OpS K T (fun x y H Q => ∃ a b, x = .bl a ∧ y = .bl b ∧ Q (.bl (!decide (a = b))) H) dNotB := fun B a v u d e z Q o rv ru ef k => by
  unfold dNotB at ef
  split at ef
  · cases ef
    exact ⟨_, _, rep_bool o rv, rep_bool o ru, k _ a.g a.h o .refl (.bl _)⟩
  · cases ef
/-! ### repr of bools, too -/
def dRepB (d : D) : Option D := match d with
  | .bool b => some (.str (if b then "True" else "False"))
  | d => dRep d
def rReprB (K : PySem.W.Frag) (n : Nat) : List V → Hp → VK → Prop := fun xs H Q => rReprD K n xs H Q ∨ ∃ b, xs = [.bl b] ∧ Q (.str (if b = true then "True" else "False")) H
theorem up_repB : UP K T (on1 (rReprB K 8)) dRepB := fun B a x d z Q o rx ef k => by
  unfold dRepB at ef
  split at ef
  · cases ef
    exact .inr ⟨_, by rw [rep_bool o rx], k _ a.g a.h o .refl (.str _)⟩
  · exact .inl (up_rep B a x d z Q o rx ef k)
end
section
variable {X : Cx}
theorem cr_reprB {n : Nat} (hg : X.A.guards = some []) (hu : X.A.units + (n + 1) < cLine) : CallR X (.builtin "repr") (rReprB X.K n) := by
  intro pins s σ H xs us Q I r h
  rcases h with h | ⟨b, rfl, q⟩
  · exact cr_reprD hg hu pins s σ H xs us Q I r h
  · obtain ⟨u, rfl, e⟩ := vals1 r
    cases (show u = Value.bool b from e)
    exact PySem.P.repr_of_bool ⟨.str _, H, I.tok _, ⟨_, rfl⟩, q⟩
/-! ### sorted of lists of whole numbers -/
def encL (l : List Int) : PyData := .list (l.map .int)
def rSortL (K : PySem.W.Frag) : List V → Hp → VK → Prop := fun xs H Q => ∃ (a : Addr) (vs : List V) (bs : List (List Int)) (g : Hp), xs = [.ref a] ∧ SqL K H a vs ∧ Sub g H ∧ DpAll K g vs (bs.map encL) ∧ bs.length ≤ sizeLine ∧
  ∀ (vs' : List V) (p : Addr), DpAll K g vs' ((bs.mergeSort fun p q => decide (p ≤ q)).map encL) → H p = none → Q (.ref p) (upd H p (.lst vs'))
theorem each_in {K : PySem.W.Frag} {g : Hp} : ∀ {vs : List V} {its : List Value} {bs : List (List Int)}, Vals vs its → DpAll K g vs (bs.map encL) → PySem.W.EachIs (fun v b => ∃ x, RelV x v ∧ Dp K g x (encL b)) its bs
  | [], [], [], _, _ => .nil
  | v :: vs, i :: its, b :: bs, .cons h t, .cons d e => .cons ⟨v, h, d⟩ (each_in t e)
theorem each_out {K : PySem.W.Frag} {g : Hp} : ∀ {its : List Value} {bs : List (List Int)}, PySem.W.EachIs (fun v b => ∃ x, RelV x v ∧ Dp K g x (encL b)) its bs → ∃ vs, Vals vs its ∧ DpAll K g vs (bs.map encL)
  | _, _, .nil => ⟨[], .nil, .nil⟩
  | _, _, .cons ⟨x, h, d⟩ t => by
    obtain ⟨vs, a, b⟩ := each_out t
    exact ⟨x :: vs, .cons h a, .cons d b⟩
theorem cr_sortL (hu : X.A.units + 9 < cLine) : CallR X (.builtin "sorted") (rSortL X.K) := by
  intro pins s σ H xs us Q I r h
  obtain ⟨a, vs, bs, g, rfl, hs, sb, hd, hl, q⟩ := h
  obtain ⟨its, rv, hl', _⟩ := I.list hs
  rw [Vals.ref1 r]
  have e := each_in rv hd
  refine PySem.W.sorted_data (enc := encL) hl'.isList e (e.mono fun v b ⟨x, rx, dx⟩ => Dp.reads I _ _ _ (dp_sub sb dx) rx) (PySem.W.AllAlike.of fun b b' => ?_) (PySem.W.Sortable.others fun b => ⟨by simp [encL], by simp [encL]⟩) hl (fun b _ => ?_) fun out hlen he => ?_
  · show PySem.W.alike (.list (b.map .int)) (.list (b'.map .int)) = true
    rw [PySem.W.alike, PySem.W.alike_ints]
  · show X.A.units + 2 + PyData.depth (.list (b.map .int)) < cLine
    rw [PyData.depth, PySem.W.depth_ints]
    omega
  · obtain ⟨ep, he'⟩ := PyProof.Rows.sortedAll_at s.heap its out.toArray
    have e2 : PySem.W.dataLe false encL = fun p q => decide (p ≤ q) := PySem.W.dataLe_rows id
    rw [e2] at he
    obtain ⟨vs', rv', dv'⟩ := each_out he
    have hlen' : vs'.length ≤ sizeLine := by rw [rv'.length, hlen]; exact hl
    exact ⟨.ref _, upd H (s.heap.objs.size + 1) (.lst vs'), I.laid (t' := s.toks) (fun _ _ => PyProof.Rows.sortedAll_old) (Nat.le_succ _) ⟨hlen', out, ep, rv', he'⟩, rfl, q vs' _ dv' (I.hok.fresh (Nat.le_succ _))⟩
end

/-- rows of whole numbers -/
def rowsD : List D → Option (List (List Int))
  | [] => some []
  | .list es :: ds => (intsD es).bind fun b => (rowsD ds).map fun bs => b :: bs
  | _ :: _ => none
theorem intsD_eq : ∀ {ds : List D} {ns : List Int}, intsD ds = some ns → ds = ns.map PyData.int
  | [], ns, e => by cases e; rfl
  | .int i :: ds, ns, e => by
    unfold intsD at e
    obtain ⟨ns', e2, rfl⟩ := Option.map_eq_some_iff.mp e
    rw [intsD_eq e2, List.map_cons]
  | .none :: _, _, e => by cases e
  | .bool _ :: _, _, e => by cases e
  | .list _ :: _, _, e => by cases e
  | .str _ :: _, _, e => by cases e
  | .tuple _ :: _, _, e => by cases e
theorem rowsD_eq : ∀ {ds : List D} {bs : List (List Int)}, rowsD ds = some bs → ds = bs.map encL
  | [], bs, e => by cases e; rfl
  | .list es :: ds, bs, e => by
    unfold rowsD at e
    cases e1 : intsD es with
    | none => rw [e1] at e; cases e
    | some b =>
      rw [e1, Option.bind_some] at e
      obtain ⟨bs', e2, rfl⟩ := Option.map_eq_some_iff.mp e
      rw [rowsD_eq e2, List.map_cons]
      show _ = PyData.list (b.map .int) :: _
      rw [intsD_eq e1]
  | .none :: _, _, e => by cases e
  | .bool _ :: _, _, e => by cases e
  | .int _ :: _, _, e => by cases e
  | .str _ :: _, _, e => by cases e
  | .tuple _ :: _, _, e => by cases e
def dSortL (d : D) : Option (List D) := match d with
  | .list ds => (rowsD ds).bind fun bs => if bs.length ≤ 1000000 then some ((bs.mergeSort fun p q => decide (p ≤ q)).map encL) else none
  | _ => none
def dSortM (d : D) : Option (List D) := match dSort d with
  | some z => some z
  | none => dSortL d
def rSortM (K : PySem.W.Frag) : List V → Hp → VK → Prop := fun xs H Q => rSortLT K xs H Q ∨ rSortL K xs H Q
theorem cr_sortM {X : Cx} (hu : X.A.units + 9 < cLine) : CallR X (.builtin "sorted") (rSortM X.K) := by
  intro pins s σ H xs us Q I r h
  rcases h with h | h
  · exact cr_sortLT pins s σ H xs us Q I r h
  · exact cr_sortL hu pins s σ H xs us Q I r h
section
variable {K : PySem.W.Frag} {T : Addr → Prop}
theorem uo_sortM : UO K T (on1 (rSortM K)) dSortM := fun B a x d zs Q o rx ef k => by
  unfold dSortM at ef
  split at ef
  · rename_i z e
    cases ef
    exact .inl (uo_sort B a x d zs Q o rx e k)
  · rename_i e0
    unfold dSortL at ef
    split at ef
    · rename_i ds
      cases e1 : rowsD ds with
      | none => rw [e1] at ef; cases ef
      | some bs =>
        rw [e1, Option.bind_some] at ef
        split at ef
        · rename_i hl
          cases ef
          obtain ⟨p, vs, rfl, hs, t⟩ := rx.list o
          rw [rowsD_eq e1] at t
          exact .inr ⟨p, vs, bs, a.g, rfl, hs, o.le, t, Nat.le_trans hl (by decide), fun vs' q dv hq => k q vs' hq dv⟩
        · cases ef
    · cases ef
end
section
variable {X : Cx} {K : PySem.W.Frag} {T : Addr → Prop} {ea eb e : Expr} {ta tb te : TE} {p pos : Pos}
theorem qo_sortm {f : FP} (hu : X.A.units + 9 < cLine) (hg : Gl X "sorted") (hm : X.mg "sorted" = none) (ha : QB X K T e te f) (he : starEach [e] X.env = (false, eval e X.env) :: starEach [] X.env := by rfl) : QO X K T (.Call (.Name "sorted" p) [e] [] pos) (tThen te (on1 (rSortM K))) (o1 dSortM (up f)) := qo_b1 (ha.k ▸ cr_sortM hu) uo_sortM hg hm (by decide +kernel) ha (by decide) (by decide) he rfl
theorem qo_sortmh {f : FH} (hu : X.A.units + 9 < cLine) (hg : Gl X "sorted") (hm : X.mg "sorted" = none) (ha : QH X K T e te f) (he : starEach [e] X.env = (false, eval e X.env) :: starEach [] X.env := by rfl) : QO X K T (.Call (.Name "sorted" p) [e] [] pos) (tThen te (on1 (rSortM K))) (o1 dSortM f) := qo_b1h (ha.k ▸ cr_sortM hu) uo_sortM hg hm (by decide +kernel) ha (by decide) (by decide) he rfl
theorem qp_repb {f : FP} (hgd : X.A.guards = some []) (hu : X.A.units + 9 < cLine) (hg : Gl X "repr") (hm : X.mg "repr" = none) (ha : QB X K T e te f) (he : starEach [e] X.env = (false, eval e X.env) :: starEach [] X.env := by rfl) : QP X K T (.Call (.Name "repr" p) [e] [] pos) (tThen te (on1 (rReprB K 8))) (f1 dRepB f) := qp_b1 (ha.k ▸ cr_reprB hgd hu) up_repB hg hm (by decide +kernel) ha (by decide) (by decide) he rfl
theorem qh_repb {f : FH} (hgd : X.A.guards = some []) (hu : X.A.units + 9 < cLine) (hg : Gl X "repr") (hm : X.mg "repr" = none) (ha : QH X K T e te f) (he : starEach [e] X.env = (false, eval e X.env) :: starEach [] X.env := by rfl) : QH X K T (.Call (.Name "repr" p) [e] [] pos) (tThen te (on1 (rReprB K 8))) (h1 dRepB f) := qh_b1 (ha.k ▸ cr_reprB hgd hu) up_repB hg hm (by decide +kernel) ha (by decide) (by decide) he rfl
theorem qt_isB {f g : FH} (ha : QH X K T ea ta f) (hb : QH X K T eb tb g) : QT X K T (.Compare ea [.Is] [eb] pos) (tTest (tOp (fun x y H Q => ∃ a b, x = .bl a ∧ y = .bl b ∧ Q (.bl (decide (a = b))) H) ta tb)) (fTst (h2 dIsB f g)) := qt_cmH op_is_bl os_isB ha hb (nomark _)
theorem qt_notB {f g : FH} (ha : QH X K T ea ta f) (hb : QH X K T eb tb g) : QT X K T (.Compare ea [.IsNot] [eb] pos) (tTest (tOp (fun x y H Q => ∃ a b, x = .bl a ∧ y = .bl b ∧ Q (.bl (!decide (a = b))) H) ta tb)) (fTst (h2 dNotB f g)) := qt_cmH op_isnot_bl os_notB ha hb (nomark _)
end
/-! ### texts compared -/
def dNeM (d e : D) : Option D := match d, e with
  | .str a, .str b => some (.bool (!decide (a = b)))
  | d, e => dNe d e
def dEqM (d e : D) : Option D := match d, e with
  | .str a, .str b => some (.bool (decide (a = b)))
  | d, e => dEq d e
def rNeM (K : PySem.W.Frag) : R2 := fun x y H Q => rNeD K x y H Q ∨ rNe x y H Q
def rEqM (K : PySem.W.Frag) : R2 := fun x y H Q => rEqD K x y H Q ∨ rEq x y H Q
theorem op_neM {X : Cx} (hu : X.A.units + 64 < cLine) : OpR X (compareOp .NotEq) (rNeM X.K) := by
  intro pins s σ H x y v u Q I rx ry h
  rcases h with h | h
  · exact op_neD hu pins s σ H x y v u Q I rx ry h
  · exact op_ne pins s σ H x y v u Q I rx ry h
theorem op_eqM {X : Cx} (hu : X.A.units + 64 < cLine) : OpR X (compareOp .Eq) (rEqM X.K) := by
  intro pins s σ H x y v u Q I rx ry h
  rcases h with h | h
  · exact op_eqD hu pins s σ H x y v u Q I rx ry h
  · exact op_eq pins s σ H x y v u Q I rx ry h
section
variable {K : PySem.W.Frag} {T : Addr → Prop}
theorem rep_str {B : Addr → Prop} {a : Sx} {v : V} {b : Str} (o : Ok K T B a) (h : RepB K a v (.str b)) : v = .str b := by
  cases h.dp o
  rfl
theorem os_neM : OpS K T (rNeM K) dNeM := fun B a v u d e z Q o rv ru ef k => by
  unfold dNeM at ef
  split at ef
  · rename_i s t
    cases ef
    rw [rep_str o rv, rep_str o ru]
    have e2 : decide ((V.str s) = V.str t) = decide (s = t) := by simp
    exact .inr ⟨rfl, by rw [e2]; exact k _ a.g a.h o .refl (.bl _)⟩
  · exact .inl (os_ne B a v u _ _ z Q o rv ru ef k)
theorem os_eqM : OpS K T (rEqM K) dEqM := fun B a v u d e z Q o rv ru ef k => by
  unfold dEqM at ef
  split at ef
  · rename_i s t
    cases ef
    rw [rep_str o rv, rep_str o ru]
    have e2 : decide ((V.str s) = V.str t) = decide (s = t) := by simp
    exact .inr ⟨rfl, by rw [e2]; exact k _ a.g a.h o .refl (.bl _)⟩
  · exact .inl (os_eq B a v u _ _ z Q o rv ru ef k)
end
section
variable {X : Cx} {K : PySem.W.Frag} {T : Addr → Prop} {ea eb e : Expr} {ta tb te : TE} {p pos : Pos}
theorem qt_neMP {f g : FP} (hu : X.A.units + 64 < cLine) (ha : QB X K T ea ta f) (hb : QB X K T eb tb g) : QT X K T (.Compare ea [.NotEq] [eb] pos) (tTest (tOp (rNeM K) ta tb)) (fTst (up (f2 dNeM f g))) := qt_cmP (ha.k ▸ op_neM hu) os_neM ha hb (nomark _)
theorem qt_eqMP {f g : FP} (hu : X.A.units + 64 < cLine) (ha : QB X K T ea ta f) (hb : QB X K T eb tb g) : QT X K T (.Compare ea [.Eq] [eb] pos) (tTest (tOp (rEqM K) ta tb)) (fTst (up (f2 dEqM f g))) := qt_cmP (ha.k ▸ op_eqM hu) os_eqM ha hb (nomark _)
theorem qt_neMH {f g : FH} (hu : X.A.units + 64 < cLine) (ha : QH X K T ea ta f) (hb : QH X K T eb tb g) : QT X K T (.Compare ea [.NotEq] [eb] pos) (tTest (tOp (rNeM K) ta tb)) (fTst (h2 dNeM f g)) := qt_cmH (ha.k ▸ op_neM hu) os_neM ha hb (nomark _)
theorem qt_eqMH {f g : FH} (hu : X.A.units + 64 < cLine) (ha : QH X K T ea ta f) (hb : QH X K T eb tb g) : QT X K T (.Compare ea [.Eq] [eb] pos) (tTest (tOp (rEqM K) ta tb)) (fTst (h2 dEqM f g)) := qt_cmH (ha.k ▸ op_eqM hu) os_eqM ha hb (nomark _)
theorem qp_neM {f g : FP} (hu : X.A.units + 64 < cLine) (ha : QB X K T ea ta f) (hb : QB X K T eb tb g) : QP X K T (.Compare ea [.NotEq] [eb] pos) (tOp (rNeM K) ta tb) (f2 dNeM f g) := qp_cm (ha.k ▸ op_neM hu) os_neM ha hb (nomark _)
theorem qp_eqM {f g : FP} (hu : X.A.units + 64 < cLine) (ha : QB X K T ea ta f) (hb : QB X K T eb tb g) : QP X K T (.Compare ea [.Eq] [eb] pos) (tOp (rEqM K) ta tb) (f2 dEqM f g) := qp_cm (ha.k ▸ op_eqM hu) os_eqM ha hb (nomark _)
theorem qh_neM {f g : FH} (hu : X.A.units + 64 < cLine) (ha : QH X K T ea ta f) (hb : QH X K T eb tb g) : QH X K T (.Compare ea [.NotEq] [eb] pos) (tOp (rNeM K) ta tb) (h2 dNeM f g) := qh_cm (ha.k ▸ op_neM hu) os_neM ha hb (nomark _)
theorem qh_eqM {f g : FH} (hu : X.A.units + 64 < cLine) (ha : QH X K T ea ta f) (hb : QH X K T eb tb g) : QH X K T (.Compare ea [.Eq] [eb] pos) (tOp (rEqM K) ta tb) (h2 dEqM f g) := qh_cm (ha.k ▸ op_eqM hu) os_eqM ha hb (nomark _)
end
end Pv

set_option Elab.async false
set_option linter.all false
set_option maxRecDepth 100000
set_option maxHeartbeats 1000000
namespace Pv
open PySem PySem.Spec L2

/-! ### arithmetic with bounds -/
@[simp] theorem vr_mod {i j : Int} (h : 0 < j) : dMod (.int i) (.int j) = some (.int (i % j)) := by
  show (if cMod i j = true then _ else none) = _
  rw [if_pos (show cMod i j = true from decide_eq_true h)]
theorem vr_div {i j : Int} (h : 0 < j) (h2 : j < 1073741824) : dDiv (.int i) (.int j) = some (.int (i / j)) := by
  show (if cDiv i j = true then _ else none) = _
  rw [if_pos (by unfold cDiv; simp [h, h2])]
theorem vr_divmod {i j : Int} (h : 0 < j) (h2 : j < 1073741824) : dDivmod (.int i) (.int j) = some (.tuple [.int (i / j), .int (i % j)]) := by
  show (if cDivW i j = true then _ else none) = _
  rw [if_pos (by unfold cDivW; simp [h, h2])]
theorem vr_mulR {i j : Int} (h1 : -(2 ^ 64) < j) (h2 : j < 2 ^ 64) : dMul (.int i) (.int j) = some (.int (i * j)) := by
  show (if cMul i j = true then _ else none) = _
  rw [if_pos (by unfold cMul; simp only [Bool.or_eq_true, Bool.and_eq_true, decide_eq_true_eq]; exact .inr ⟨h1, h2⟩)]
theorem vr_mulL {i j : Int} (h1 : -(2 ^ 64) < i) (h2 : i < 2 ^ 64) : dMul (.int i) (.int j) = some (.int (i * j)) := by
  show (if cMul i j = true then _ else none) = _
  rw [if_pos (by unfold cMul; simp only [Bool.or_eq_true, Bool.and_eq_true, decide_eq_true_eq]; exact .inl ⟨h1, h2⟩)]
theorem vr_pow {i j : Int} (h0 : 0 ≤ j) (h1 : j ≤ 1000000) (h2 : i.natAbs < 2 ^ 64) : dPow (.int i) (.int j) = some (.int (i ^ j.toNat)) := by
  show (if cPow i j = true then _ else none) = _
  rw [if_pos (by unfold cPow; simp only [Bool.and_eq_true, decide_eq_true_eq]; exact ⟨⟨h0, h1⟩, h2⟩)]
@[simp] theorem vr_abs (i : Int) : dAbs (.int i) = some (.int (if i < 0 then -i else i)) := rfl
/-- a pot: two whole numbers -/
def Pot (p : List D) : Prop := ∃ a b : Int, p = [.int a, .int b]
theorem nat_of {z n : Int} (h : 0 ≤ z) (h2 : z < n) : ∃ k : Nat, z = (k : Int) ∧ (k : Int) < n := ⟨z.toNat, by omega, by omega⟩
theorem perm_ers {l : List Nat} {k : Nat} (h : k < l.length) : ([l[k]] ++ l.eraseIdx k).Perm l := by
  rw [List.eraseIdx_eq_take_drop_succ]
  conv => rhs; rw [← List.take_append_drop k l, List.drop_eq_getElem_cons h]
  exact (List.perm_middle (a := l[k]) (l₁ := l.take k) (l₂ := l.drop (k + 1))).symm
/-- what a draw is worth -/
structure DrawOk (draw : List D → List D → Option (D × List D)) : Prop where
  run : ∀ {p : List D} {n : Nat}, Pot p → 1 ≤ n → n ≤ 1000000 → ∃ k p', k < n ∧ Pot p' ∧ draw p [nI n] = some (nI k, p')
end Pv

set_option Elab.async false
set_option linter.all false
set_option maxRecDepth 100000
set_option maxHeartbeats 1000000
namespace Pv
open PySem PySem.Spec L2

/-! ### repr -/
theorem rep_nice {d : D} {n m : Nat} (h : Lb.Nice n m d) (ho : dRep.isOb d = true) (hn : n ≤ 8) (hm : m ≤ 4000) : dRepB d = some (.str d.shown) := by
  have e : dRepB d = dRep d := by
    cases d <;> first | rfl | cases ho
  rw [e]
  unfold dRep
  rw [ho, h.shw, h.noDict, decide_eq_true (Nat.le_trans h.dep hn), decide_eq_true (Nat.le_trans h.txt (Nat.le_trans hm (by decide)))]
  rfl
theorem rep_sq {d : D} {l : List Nat} (h : Sqd d l) (hl : l.length ≤ 100) (hk : ∀ k ∈ l, k < 100) : dRepB d = some (.str d.shown) := by
  have z := Lb.nice_ord hk hl
  rcases h with rfl | rfl
  · exact rep_nice (d := lD l) z.1 rfl (by decide) (by decide)
  · exact rep_nice (d := tD l) z.2 rfl (by decide) (by decide)
@[simp] theorem rep_bool' (b : Bool) : dRepB (.bool b) = some (.str (if b then "True" else "False")) := rfl
@[simp] theorem ne_str (s t : Str) : dNeM (.str s) (.str t) = some (.bool (!decide (s = t))) := rfl
@[simp] theorem eq_str (s t : Str) : dEqM (.str s) (.str t) = some (.bool (decide (s = t))) := rfl
theorem ne_bool (a b : Bool) : dNe (.bool a) (.bool b) = some (.bool (!decide (a = b))) := dNe_en en_bool (by decide) a b
theorem eq_bool (a b : Bool) : dEq (.bool a) (.bool b) = some (.bool (decide (a = b))) := dEq_en en_bool (by decide) a b
theorem ne_tD (a b : List Nat) : dNe (tD a) (tD b) = some (.bool (!decide (a = b))) := dNe_en en_tD (by decide) a b
theorem eq_tD (a b : List Nat) : dEq (tD a) (tD b) = some (.bool (decide (a = b))) := dEq_en en_tD (by decide) a b
theorem ne_nI (a b : Nat) : dNe (nI a) (nI b) = some (.bool (!decide (a = b))) := dNe_en en_nI (by decide) a b
theorem eq_nI (a b : Nat) : dEq (nI a) (nI b) = some (.bool (decide (a = b))) := dEq_en en_nI (by decide) a b
theorem ne_int (a b : Int) : dNe (.int a) (.int b) = some (.bool (!decide (a = b))) := dNe_en en_int (by decide) a b
theorem eq_int (a b : Int) : dEq (.int a) (.int b) = some (.bool (decide (a = b))) := dEq_en en_int (by decide) a b
@[simp] theorem is_bl (a b : Bool) : dIsB (.bool a) (.bool b) = some (.bool (decide (a = b))) := rfl
@[simp] theorem not_bl (a b : Bool) : dNotB (.bool a) (.bool b) = some (.bool (!decide (a = b))) := rfl
/-! ### while: I k, k above what is left -/
theorem wh_of {c : FT} {body : FS} (I : Nat → Ev → Prop) (E : Ev → Prop)
    (step : ∀ k r, I k r → (∃ r1, c r = some (false, r1) ∧ E r1) ∨ ∃ r1 r2 j, c r = some (true, r1) ∧ body r1 = some (.nx r2) ∧ j < k ∧ I j r2) :
    ∀ (n k : Nat) (r : Ev), I k r → k < n → ∃ r', whF c body n r = some (.nx r') ∧ E r'
  | 0, k, r, _, hk => absurd hk (Nat.not_lt_zero _)
  | n + 1, k, r, hI, hk => by
    rcases step k r hI with ⟨r1, e1, hE⟩ | ⟨r1, r2, j, e1, e2, hj, h2⟩
    · refine ⟨r1, ?_, hE⟩
      show ((c r).bind _) = _
      rw [e1]
      rfl
    · obtain ⟨r', e3, hE⟩ := wh_of I E step n j r2 h2 (by omega)
      refine ⟨r', ?_, hE⟩
      show ((c r).bind _) = _
      rw [e1, Option.bind_some, if_pos rfl, e2, Option.bind_some]
      exact e3
/-! ### sorted of two -/
theorem sortI_two (a b : Nat) : sortI [(a : Int), (b : Int)] = [((min a b : Nat) : Int), ((max a b : Nat) : Int)] := by
  refine List.Perm.eq_of_pairwise (le := fun x y => x ≤ y) (fun x y _ _ h1 h2 => Int.le_antisymm h1 h2) (sortI_sorted _) (by simp; omega) ((sortI_perm _).trans ?_)
  by_cases h : a ≤ b
  · rw [Nat.min_eq_left h, Nat.max_eq_right h]
  · rw [Nat.min_eq_right (by omega), Nat.max_eq_left (by omega)]
    exact .swap _ _ _
theorem sort_two (a b : Nat) : dSortM (.list [nI a, nI b]) = some [nI (min a b), nI (max a b)] := by
  have e : dSort (.list [nI a, nI b]) = some ((sortI [(a : Int), (b : Int)]).map PyData.int) := rfl
  unfold dSortM
  rw [e, sortI_two]
  rfl
end Pv

set_option Elab.async false
set_option linter.all false
set_option maxRecDepth 100000
set_option maxHeartbeats 1000000
namespace Pm
/-! ### words -/
def Wd (n : Nat) (w : List Nat) : Prop := ∀ s ∈ w, 1 ≤ s ∧ s < n
theorem Wd.left {n : Nat} {a b : List Nat} (h : Wd n (a ++ b)) : Wd n a := fun s m => h s (List.mem_append_left _ m)
theorem Wd.right {n : Nat} {a b : List Nat} (h : Wd n (a ++ b)) : Wd n b := fun s m => h s (List.mem_append_right _ m)
theorem Wd.app {n : Nat} {a b : List Nat} (h : Wd n a) (k : Wd n b) : Wd n (a ++ b) := fun s m => (List.mem_append.mp m).elim (h s) (k s)
theorem Wd.rev {n : Nat} {a : List Nat} (h : Wd n a) : Wd n a.reverse := fun s m => h s (List.mem_reverse.mp m)
def apW (o w : List Nat) : List Nat := w.foldl (fun o s => exch o (s - 1) s) o
def ordW (n : Nat) (w : List Nat) : List Nat := apW (pl n) w
theorem apW_app (o a b : List Nat) : apW o (a ++ b) = apW (apW o a) b := List.foldl_append
theorem ordW_snoc (n : Nat) (w : List Nat) (s : Nat) : ordW n (w ++ [s]) = exch (ordW n w) (s - 1) s := apW_app _ _ _
theorem snoc_ind {P : List Nat → Prop} (h0 : P []) (h1 : ∀ w s, P w → P (w ++ [s])) (w : List Nat) : P w := by
  have : ∀ w : List Nat, P w.reverse := fun w => by
    induction w with
    | nil => exact h0
    | cons x r ih =>
      rw [List.reverse_cons]
      exact h1 _ _ ih
  have z := this w.reverse
  rwa [List.reverse_reverse] at z
theorem len_apW : ∀ (w o : List Nat), (apW o w).length = o.length
  | [], o => rfl
  | s :: w, o => by
    show (apW (exch o (s - 1) s) w).length = _
    rw [len_apW w, len_exch]
theorem ord_apW : ∀ {w o : List Nat}, IsOrd o → Wd o.length w → IsOrd (apW o w)
  | [], o, h, _ => h
  | s :: w, o, h, hw => by
    have hs := hw s (.head _)
    exact ord_apW (o := exch o (s - 1) s) (ord_exch h (by omega) hs.2) (fun t m => by rw [len_exch]; exact hw t (.tail _ m))
theorem len_ordW (n : Nat) (w : List Nat) : (ordW n w).length = n := by
  unfold ordW
  rw [len_apW, len_pl]
theorem ord_ordW {n : Nat} {w : List Nat} (h1 : 1 ≤ n) (h9 : n ≤ 9) (hw : Wd n w) : IsOrd (ordW n w) := ord_apW (ord_pl h1 h9) (by rw [len_pl]; exact hw)
theorem exch_exch {o : List Nat} {i j : Nat} (hi : i < o.length) (hj : j < o.length) : exch (exch o i j) i j = o := by
  refine ext_at (by rw [len_exch, len_exch]) fun k hk => ?_
  rw [len_exch, len_exch] at hk
  rw [at_exch (by rw [len_exch]; exact hi) (by rw [len_exch]; exact hj) (by rw [len_exch]; exact hk), at_exch hi hj hi, at_exch hi hj hj, at_exch hi hj hk]
  by_cases c : k = j <;> by_cases d : k = i <;> simp_all
theorem ordW_app {n : Nat} {a b : List Nat} (h1 : 1 ≤ n) (h9 : n ≤ 9) (ha : Wd n a) : Wd n b → ordW n (a ++ b) = beh (ordW n a) (ordW n b) := by
  refine snoc_ind (P := fun b => Wd n b → ordW n (a ++ b) = beh (ordW n a) (ordW n b)) ?_ (fun b s ih => ?_) b
  · intro _
    rw [List.append_nil]
    have z := beh_pl (ord_ordW h1 h9 ha)
    rw [len_ordW] at z
    exact z.symm
  · intro hb
    have hs := hb s (by simp)
    have oa := ord_ordW h1 h9 ha
    have ob := ord_ordW h1 h9 hb.left
    have e := ord_step h1 h9 (i := s - 1) (j := s) (by omega) hs.2
    have le : (exch (pl n) (s - 1) s).length = n := by rw [len_exch, len_pl]
    rw [← List.append_assoc, ordW_snoc, ordW_snoc, ih hb.left]
    have la : (beh (ordW n a) (ordW n b)).length = n := by rw [len_beh, len_ordW]
    have z1 := beh_step (o := beh (ordW n a) (ordW n b)) (i := s - 1) (j := s) (by rw [la]; omega) (by rw [la]; exact hs.2)
    rw [la] at z1
    have z2 := beh_step (o := ordW n b) (i := s - 1) (j := s) (by rw [len_ordW]; omega) (by rw [len_ordW]; exact hs.2)
    rw [len_ordW] at z2
    rw [← z1, ← z2]
    exact beh_beh (by rw [len_ordW, le]) e
theorem ordW_one {n s : Nat} : ordW n [s] = exch (pl n) (s - 1) s := rfl
theorem ordW_rev {n : Nat} (h1 : 1 ≤ n) (h9 : n ≤ 9) : ∀ w, Wd n w → ordW n w.reverse = und (ordW n w)
  | [], _ => by
    show pl n = und (pl n)
    exact Eq.symm (und_is (ord_pl h1 h9) (by rfl) fun k hk => by
      rw [len_pl] at hk
      rw [at_pl hk, len_pl, Nat.add_sub_cancel, at_pl hk]
      omega)
  | s :: r, hw => by
    have hs := hw s (.head _)
    have hr : Wd n r := fun t m => hw t (.tail _ m)
    have h0 : Wd n [s] := fun t m => by cases m with
      | head => exact hs
      | tail _ m => cases m
    have e := ord_step h1 h9 (i := s - 1) (j := s) (by omega) hs.2
    rw [List.reverse_cons, ordW_app h1 h9 hr.rev h0, ordW_rev h1 h9 r hr, show s :: r = [s] ++ r from rfl, ordW_app h1 h9 h0 hr, ordW_one,
      und_beh e (ord_ordW h1 h9 hr) (by rw [len_exch, len_pl, len_ordW]), und_step h1 h9 (by omega) hs.2]
/-! ### wrong pairs by their things -/
def Vp : List Nat → List (Nat × Nat)
  | [] => []
  | x :: r => (r.filter fun y => decide (y < x)).map (fun y => (y, x)) ++ Vp r
def sw : List Nat → Nat → List Nat
  | x :: y :: r, 0 => y :: x :: r
  | x :: r, p + 1 => x :: sw r p
  | l, _ => l
theorem exch_sw : ∀ {o : List Nat} {p : Nat}, p + 1 < o.length → exch o p (p + 1) = sw o p
  | [], p, h => absurd h (Nat.not_lt_zero _)
  | [x], p, h => by simp at h
  | x :: y :: r, 0, h => rfl
  | x :: y :: r, p + 1, h => by
    have z := exch_sw (o := y :: r) (p := p) (by simpa using h)
    show _ = x :: sw (y :: r) p
    rw [← z]
    simp [exch]
theorem sw_perm : ∀ (o : List Nat) (p : Nat), (sw o p).Perm o
  | [], p => by cases p <;> exact .refl _
  | [x], 0 => .refl _
  | [x], p + 1 => by
    show (x :: sw [] p).Perm [x]
    cases p <;> exact .refl _
  | x :: y :: r, 0 => .swap _ _ _
  | x :: y :: r, p + 1 => (sw_perm (y :: r) p).cons x
theorem Vp_up : ∀ {o : List Nat} {p : Nat}, p + 1 < o.length → o.getD p 0 < o.getD (p + 1) 0 → (Vp (sw o p)).Perm ((o.getD p 0, o.getD (p + 1) 0) :: Vp o)
  | [], p, h, _ => absurd h (Nat.not_lt_zero _)
  | [x], p, h, _ => by simp at h
  | x :: y :: r, 0, h, lt => by
    have lt : x < y := lt
    show (Vp (y :: x :: r)).Perm ((x, y) :: Vp (x :: y :: r))
    unfold Vp
    unfold Vp
    have n1 : ¬ y < x := by omega
    simp only [List.filter_cons, lt, decide_true, if_true, n1, decide_false, Bool.false_eq_true, if_false, List.map_cons, List.cons_append]
    refine List.Perm.cons _ ?_
    rw [← List.append_assoc, ← List.append_assoc]
    exact List.perm_append_comm.append_right _
  | x :: y :: r, p + 1, h, lt => by
    have z := Vp_up (o := y :: r) (p := p) (by simpa using h) (by simpa using lt)
    show (Vp (x :: sw (y :: r) p)).Perm _
    rw [Vp, Vp]
    have e1 : ((sw (y :: r) p).filter fun t => decide (t < x)).Perm ((y :: r).filter fun t => decide (t < x)) := (sw_perm _ _).filter _
    have z' : (Vp (sw (y :: r) p)).Perm (((x :: y :: r).getD (p + 1) 0, (x :: y :: r).getD (p + 1 + 1) 0) :: Vp (y :: r)) := by simpa using z
    exact ((e1.map _).append z').trans List.perm_middle
theorem Vp_dn {o : List Nat} {p : Nat} (h : p + 1 < o.length) (gt : o.getD (p + 1) 0 < o.getD p 0) : (Vp o).Perm ((o.getD (p + 1) 0, o.getD p 0) :: Vp (exch o p (p + 1))) := by
  have hl : p + 1 < (exch o p (p + 1)).length := by rw [len_exch]; exact h
  have a1 : (exch o p (p + 1)).getD p 0 = o.getD (p + 1) 0 := by rw [at_exch (by omega) h (by omega), if_neg (by omega), if_pos rfl]
  have a2 : (exch o p (p + 1)).getD (p + 1) 0 = o.getD p 0 := by rw [at_exch (by omega) h (by omega), if_pos rfl]
  have z := Vp_up hl (by rw [a1, a2]; exact gt)
  rw [← exch_sw hl, exch_exch (by omega) h, a1, a2] at z
  exact z
theorem Vp_up' {o : List Nat} {p : Nat} (h : p + 1 < o.length) (lt : o.getD p 0 < o.getD (p + 1) 0) : (Vp (exch o p (p + 1))).Perm ((o.getD p 0, o.getD (p + 1) 0) :: Vp o) := by
  rw [exch_sw h]
  exact Vp_up h lt
theorem Vp_mem : ∀ {o : List Nat} {q : Nat × Nat}, q ∈ Vp o → q.2 ∈ o
  | x :: r, q, h => by
    rcases List.mem_append.mp h with h | h
    · obtain ⟨y, _, rfl⟩ := List.mem_map.mp h
      exact .head _
    · exact .tail _ (Vp_mem h)
theorem Vp_nodup : ∀ {o : List Nat}, o.Nodup → (Vp o).Nodup
  | [], _ => .nil
  | x :: r, h => by
    rw [List.nodup_cons] at h
    unfold Vp
    refine List.nodup_append.mpr ⟨?_, Vp_nodup h.2, ?_⟩
    · exact List.pairwise_map.mpr ((h.2.filter _).imp fun ne e => ne (Prod.ext_iff.mp e).1)
    · rintro q m1 q' m2 rfl
      obtain ⟨y, _, rfl⟩ := List.mem_map.mp m1
      exact h.1 (Vp_mem m2)
theorem row_cons (x : Nat) (r : List Nat) (a k : Nat) : row (x :: r) (a + 1) k = (row r a k).map fun q => (q.1 + 1, q.2 + 1) := by
  unfold row
  rw [List.map_map]
  have e : ∀ b, (x :: r).getD (a + 1 + 1 + b) 0 = r.getD (a + 1 + b) 0 := fun b => by
    rw [show a + 1 + 1 + b = (a + 1 + b) + 1 by omega, List.getD_cons_succ]
  simp only [List.getD_cons_succ, e]
  refine List.map_congr_left fun b _ => ?_
  exact Prod.ext rfl (by show a + 1 + 1 + b = a + 1 + b + 1; omega)
theorem wps_Vp : ∀ o : List Nat, (wps o).map (fun q => (o.getD q.2 0, o.getD q.1 0)) = Vp o
  | [] => rfl
  | x :: r => by
    have ih := wps_Vp r
    unfold wps at ih ⊢
    rw [List.length_cons, List.range_succ_eq_map, List.flatMap_cons, List.map_append]
    unfold Vp
    congr 1
    · unfold row
      rw [List.map_map]
      have e : r.filter (fun y => decide (y < x)) = ((List.range r.length).filter fun b => decide (r.getD b 0 < x)).map fun b => r.getD b 0 := by
        conv => lhs; rw [← map_getD r]
        rw [List.filter_map]
        rfl
      rw [e, List.map_map]
      have l : r.length + 1 - (0 + 1) = r.length := by omega
      rw [l]
      have e2 : ∀ b, (x :: r).getD (0 + 1 + b) 0 = r.getD b 0 := fun b => by rw [show 0 + 1 + b = b + 1 by omega, List.getD_cons_succ]
      simp only [e2, List.getD_cons_zero]
      refine List.map_congr_left fun b _ => ?_
      exact Prod.ext (e2 b) rfl
    · rw [List.flatMap_map, ← ih, List.map_flatMap, List.map_flatMap]
      refine flat_congr fun a _ => ?_
      rw [row_cons, List.map_map, show r.length + 1 - (a + 1 + 1) = r.length - (a + 1) by omega]
      rfl
theorem lev_Vp (o : List Nat) : lev o = (Vp o).length := by
  rw [← wps_Vp, List.length_map]
  rfl
theorem lev_up {o : List Nat} {p : Nat} (h : p + 1 < o.length) (lt : o.getD p 0 < o.getD (p + 1) 0) : lev (exch o p (p + 1)) = lev o + 1 := by
  rw [lev_Vp, lev_Vp, (Vp_up' h lt).length_eq]
  rfl
theorem lev_dn {o : List Nat} {p : Nat} (h : p + 1 < o.length) (gt : o.getD (p + 1) 0 < o.getD p 0) : lev o = lev (exch o p (p + 1)) + 1 := by
  rw [lev_Vp, lev_Vp, (Vp_dn h gt).length_eq]
  rfl
/-! ### the things that a word's letters exchange -/
def prW (o : List Nat) (s : Nat) : Nat × Nat := (min (o.getD (s - 1) 0) (o.getD s 0), max (o.getD (s - 1) 0) (o.getD s 0))
def psA : List Nat → List Nat → List (Nat × Nat)
  | _, [] => []
  | o, s :: w => prW o s :: psA (exch o (s - 1) s) w
def psW (n : Nat) (w : List Nat) : List (Nat × Nat) := psA (pl n) w
theorem psA_app : ∀ (a o b : List Nat), psA o (a ++ b) = psA o a ++ psA (apW o a) b
  | [], o, b => rfl
  | s :: a, o, b => by
    show prW o s :: psA (exch o (s - 1) s) (a ++ b) = _
    rw [psA_app a]
    rfl
theorem psW_snoc (n : Nat) (w : List Nat) (s : Nat) : psW n (w ++ [s]) = psW n w ++ [prW (ordW n w) s] := psA_app _ _ _
theorem len_psA : ∀ (w o : List Nat), (psA o w).length = w.length
  | [], _ => rfl
  | s :: w, o => by
    show (psA (exch o (s - 1) s) w).length + 1 = w.length + 1
    rw [len_psA w]
theorem lev_pl {n : Nat} (h9 : n ≤ 9) : lev (pl n) = 0 := by
  have : ∀ n, n < 10 → lev (pl n) = 0 := by decide +kernel
  exact this n (by omega)
section
variable {n : Nat} (h1 : 1 ≤ n) (h9 : n ≤ 9)
include h1 h9
/-- one letter more: a level up, or down -/
theorem lev_letter {w : List Nat} {s : Nat} (hw : Wd n w) (hs : 1 ≤ s ∧ s < n) :
    ((ordW n w).getD (s - 1) 0 < (ordW n w).getD s 0 ∧ lev (ordW n (w ++ [s])) = lev (ordW n w) + 1) ∨ (¬ (ordW n w).getD (s - 1) 0 < (ordW n w).getD s 0 ∧ lev (ordW n w) = lev (ordW n (w ++ [s])) + 1) := by
  obtain ⟨p, rfl⟩ : ∃ p, s = p + 1 := ⟨s - 1, by omega⟩
  rw [ordW_snoc, Nat.add_sub_cancel]
  have io := ord_ordW h1 h9 hw
  have l : p + 1 < (ordW n w).length := by rw [len_ordW]; exact hs.2
  by_cases c : (ordW n w).getD p 0 < (ordW n w).getD (p + 1) 0
  · exact .inl ⟨c, lev_up l c⟩
  · have ne : (ordW n w).getD (p + 1) 0 ≠ (ordW n w).getD p 0 := fun e => by
      have := io.inj l (by omega) e
      omega
    exact .inr ⟨c, lev_dn l (by omega)⟩
theorem lev_le (w : List Nat) : Wd n w → lev (ordW n w) ≤ w.length := by
  refine snoc_ind (P := fun w => Wd n w → lev (ordW n w) ≤ w.length) (fun _ => ?_) (fun w s ih hw => ?_) w
  · show lev (pl n) ≤ 0
    rw [lev_pl h9]
    exact Nat.le_refl _
  · have z := ih hw.left
    rw [List.length_append, List.length_singleton]
    rcases lev_letter h1 h9 hw.left (hw s (by simp)) with ⟨_, e⟩ | ⟨_, e⟩ <;> omega
theorem Vp_ps (w : List Nat) : Wd n w → lev (ordW n w) = w.length → (Vp (ordW n w)).Perm (psW n w) := by
  refine snoc_ind (P := fun w => Wd n w → lev (ordW n w) = w.length → (Vp (ordW n w)).Perm (psW n w)) (fun _ e => ?_) (fun w s ih hw e => ?_) w
  · rw [lev_Vp] at e
    rw [List.eq_nil_of_length_eq_zero e]
    exact .refl _
  · rw [List.length_append, List.length_singleton] at e
    have le := lev_le h1 h9 w hw.left
    have hs := hw s (by simp)
    rcases lev_letter h1 h9 hw.left hs with ⟨lt, e2⟩ | ⟨_, e2⟩
    · have z := ih hw.left (by omega)
      obtain ⟨p, rfl⟩ : ∃ p, s = p + 1 := ⟨s - 1, by omega⟩
      rw [Nat.add_sub_cancel] at lt
      rw [psW_snoc, ordW_snoc, Nat.add_sub_cancel]
      have u := Vp_up' (o := ordW n w) (p := p) (by rw [len_ordW]; exact hs.2) lt
      have e3 : prW (ordW n w) (p + 1) = ((ordW n w).getD p 0, (ordW n w).getD (p + 1) 0) := by
        unfold prW
        rw [Nat.add_sub_cancel]
        exact Prod.ext (by show min _ _ = _; omega) (by show max _ _ = _; omega)
      rw [e3]
      exact u.trans ((z.cons _).trans (List.perm_append_singleton _ _).symm)
    · omega
/-- a word is least just if its letters exchange no two things twice -/
theorem least_iff (w : List Nat) : Wd n w → (lev (ordW n w) = w.length ↔ (psW n w).Nodup) := by
  intro hw
  constructor
  · intro e
    have io := ord_ordW h1 h9 hw
    exact (Vp_ps h1 h9 w hw e).nodup_iff.mp (Vp_nodup (io.perm.nodup_iff.mpr List.nodup_range'))
  · revert hw
    refine snoc_ind (P := fun w => Wd n w → (psW n w).Nodup → lev (ordW n w) = w.length) (fun _ _ => lev_pl h9) (fun w s ih hw nd => ?_) w
    rw [psW_snoc] at nd
    obtain ⟨nd1, _, nd3⟩ := List.nodup_append.mp nd
    have e := ih hw.left nd1
    have hs := hw s (by simp)
    rw [List.length_append, List.length_singleton]
    rcases lev_letter h1 h9 hw.left hs with ⟨_, e2⟩ | ⟨nl, e2⟩
    · omega
    · exfalso
      have io := ord_ordW h1 h9 hw.left
      obtain ⟨p, rfl⟩ : ∃ p, s = p + 1 := ⟨s - 1, by omega⟩
      rw [Nat.add_sub_cancel] at nl
      have l : p + 1 < (ordW n w).length := by rw [len_ordW]; exact hs.2
      have ne : (ordW n w).getD (p + 1) 0 ≠ (ordW n w).getD p 0 := fun e => by
        have := io.inj l (by omega) e
        omega
      have u := Vp_dn l (by omega)
      have e3 : prW (ordW n w) (p + 1) = ((ordW n w).getD (p + 1) 0, (ordW n w).getD p 0) := by
        unfold prW
        rw [Nat.add_sub_cancel]
        exact Prod.ext (by show min _ _ = _; omega) (by show max _ _ = _; omega)
      have m : prW (ordW n w) (p + 1) ∈ psW n w := (Vp_ps h1 h9 w hw.left e).mem_iff.mp (u.mem_iff.mpr (by rw [e3]; exact .head _))
      exact nd3 _ m _ (.head _) rfl
end
/-! ### falls put right -/
def fls (o : List Nat) : List Nat := (List.range (o.length - 1)).filter fun p => decide (o.getD (p + 1) 0 < o.getD p 0)
theorem mem_fls {o : List Nat} {p : Nat} : p ∈ fls o ↔ p + 1 < o.length ∧ o.getD (p + 1) 0 < o.getD p 0 := by
  unfold fls
  rw [List.mem_filter, List.mem_range, decide_eq_true_eq]
  constructor
  · intro ⟨a, b⟩
    exact ⟨by omega, b⟩
  · intro ⟨a, b⟩
    exact ⟨by omega, b⟩
theorem ris_of : ∀ {l : List Nat}, (∀ p, p + 1 < l.length → l.getD p 0 < l.getD (p + 1) 0) → l.Pairwise (· < ·)
  | [], _ => .nil
  | [x], _ => List.pairwise_singleton _ _
  | x :: y :: r, h => by
    have ih : (y :: r).Pairwise (· < ·) := ris_of fun p hp => by
      have := h (p + 1) (by simpa using hp)
      simpa using this
    have xy : x < y := h 0 (by simp)
    refine .cons (fun z m => ?_) ih
    rcases List.mem_cons.mp m with rfl | m
    · exact xy
    · exact Nat.lt_trans xy ((List.pairwise_cons.mp ih).1 z m)
theorem fls_nil {o : List Nat} (io : IsOrd o) (h : fls o = []) : o = pl o.length := by
  have ri : o.Pairwise (· < ·) := ris_of fun p hp => by
    refine Nat.lt_of_not_le fun z => ?_
    have ne : o.getD (p + 1) 0 ≠ o.getD p 0 := fun e => by
      have := io.inj hp (by omega) e
      omega
    have m : p ∈ fls o := mem_fls.mpr ⟨hp, by omega⟩
    rw [h] at m
    cases m
  exact List.Perm.eq_of_pairwise (le := (· ≤ ·)) (fun a b _ _ x y => Nat.le_antisymm x y) (ri.imp Nat.le_of_lt) ((List.pairwise_lt_range' (s := 1) (n := o.length) (step := 1)).imp Nat.le_of_lt) io.perm
theorem fls_lev {o : List Nat} (io : IsOrd o) : fls o = [] ↔ lev o = 0 := by
  constructor
  · intro h
    rw [fls_nil io h]
    exact lev_pl io.hi
  · intro h
    cases e : fls o with
    | nil => rfl
    | cons p r =>
      have m : p ∈ fls o := by rw [e]; exact .head _
      obtain ⟨a, b⟩ := mem_fls.mp m
      have := lev_dn a b
      omega
/-- so far the letters f have been put down, o is left of O -/
structure Lw (O o f : List Nat) : Prop where
  io : IsOrd o
  ln : o.length = O.length
  wd : Wd O.length f
  ap : apW o f = O
  lv : lev O = lev o + f.length
theorem Lw.start {O : List Nat} (h : IsOrd O) : Lw O O [] := ⟨h, rfl, fun _ m => (by cases m), rfl, rfl⟩
theorem Lw.next {O o f : List Nat} {p : Nat} (h : Lw O o f) (m : p ∈ fls o) : Lw O (exch o p (p + 1)) ((p + 1) :: f) := by
  obtain ⟨a, b⟩ := mem_fls.mp m
  have hl := h.ln
  refine ⟨ord_exch h.io (by omega) a, by rw [len_exch, h.ln], fun s m => ?_, ?_, ?_⟩
  · rcases List.mem_cons.mp m with rfl | m
    · omega
    · exact h.wd s m
  · show apW (exch (exch o p (p + 1)) (p + 1 - 1) (p + 1)) f = O
    rw [Nat.add_sub_cancel, exch_exch (by omega) a]
    exact h.ap
  · have := lev_dn a b
    have := h.lv
    rw [List.length_cons]
    omega
theorem Lw.done {O o f : List Nat} (h : Lw O o f) (e : lev o = 0) : ordW O.length f = O ∧ lev O = f.length := by
  have z := fls_nil h.io ((fls_lev h.io).mpr e)
  have a := h.ap
  have b := h.lv
  rw [z, h.ln] at a
  exact ⟨a, by omega⟩
theorem lev_le36 {o : List Nat} (io : IsOrd o) : lev o ≤ 90 := by
  have := wpTo_le (o := o) (i := o.length) (j := 0) io.hi io.hi (by omega)
  rw [wpTo_end] at this
  exact this
end Pm

set_option Elab.async false
set_option linter.all false
set_option maxRecDepth 100000
set_option maxHeartbeats 1000000
namespace Pv
open PySem PySem.Spec L2 Pm

theorem s_chks {d e : D} {o q : List Nat} (h : Sqd d o) (k : Sqd e q) (io : IsOrd o) (iq : IsOrd q) (hl : o.length = q.length) : p_check_orders [d, e] = some .none := by
  simp [p_check_orders, fnH, argsE, g_check_orders, s_chk h io, s_chk k iq, dLen_sq h, dLen_sq k, ne_nI, ne_int, hl]
theorem s_swapped {d : D} {o : List Nat} {i j : Nat} (h : Sqd d o) (hi : i < o.length) (hj : j < o.length) : p_swapped [d, nI i, nI j] = some (tD (exch o i j)) := by
  have a1 := dIx_sq (.l o) hi
  have a2 := dIx_sq (.l o) hj
  have i1 := ixN_nat' hi
  have i2 := ixN_nat' hj
  simp [-List.getD_eq_getElem?_getD, p_swapped, fnH, argsE, g_swapped, seqD_sq h, a1, a2, i1, i2, dN_set]
  rfl
theorem rgl_eq (a n : Nat) : List.range' a n = (List.range n).map (a + ·) := by
  rw [List.range_eq_range', List.map_add_range']
  simp
theorem wps_le {o : List Nat} (h : o.length ≤ 9) : (wps o).length ≤ 90 := by
  have := wpTo_le (o := o) (i := o.length) (j := 0) h h (by omega)
  rw [wpTo_end] at this
  exact this
theorem s_wrong {d : D} {o : List Nat} (h : Sqd d o) (io : IsOrd o) : p_wrong_pairs [d] = some ((wps o).map cD) := by
  have b9 := io.hi
  have s1 : isSm (o.length : Int) = true := isSm_of (by omega) (by omega)
  have em : ((List.range o.length).flatMap fun a => (row o a (o.length - (a + 1))).map cD) = (wps o).map cD := by
    unfold wps
    rw [List.map_flatMap]
  simp [p_wrong_pairs, fnO, argsE, g_wrong_pairs, s_chk h io, dLen_sq h, s1]
  rw [lc2B_eq nI (fun a => (row o a (o.length - (a + 1))).map cD) (List.range o.length)]
  · rw [em]
    simp
  · rfl
  · rw [em, List.length_map]
    have := wps_le b9; omega
  · simp
  · intro a ha
    have ha := List.mem_range.mp ha
    have s2 : isSm ((a : Int) + 1) = true := isSm_of (by omega) (by omega)
    have s3 : isSm (1 + (a : Int)) = true := isSm_of (by omega) (by omega)
    have e2 : ((o.length : Int) - (a + 1)).toNat = o.length - (a + 1) := by omega
    have e3 := rngD_z (z := (a : Int) + 1) (a := a + 1) (n := o.length - (a + 1)) (by omega)
    simp [stepO, s1, s2, s3, e2, e3]
    rw [lcF_filter (fun b => nI (a + 1 + b)) (fun b => decide (o.getD a 0 > o.getD (a + 1 + b) 0)) (fun b => cD (a, a + 1 + b)) (List.range (o.length - (a + 1)))]
    · simp [row, Function.comp_def]
    · rw [rgl_eq]; unfold dN; rw [List.map_map]; rfl
    · simp
    · intro b hb
      have hb := List.mem_range.mp hb
      have x1 := dIx_sq h (i := a) ha
      have x2 := dIx_sq h (i := a + 1 + b) (by omega)
      by_cases c : o.getD (a + 1 + b) 0 < o.getD a 0 <;> simp [-List.getD_eq_getElem?_getD, stepLc, x1, x2, c]
theorem s_level {d : D} {o : List Nat} (h : Sqd d o) (io : IsOrd o) : p_level [d] = some (nI (lev o)) := by
  simp [p_level, fnH, argsE, g_level, s_wrong h io]
  rfl
theorem s_undone {d : D} {o : List Nat} (h : Sqd d o) (io : IsOrd o) : p_undone [d] = some (tD (und o)) := by
  have b9 := io.hi
  have s1 : isSm ((o.length : Int) + 1) = true := isSm_of (by omega) (by omega)
  simp [p_undone, fnH, argsE, g_undone, s_chk h io, dLen_sq h, s1, isSm_of]
  rw [lcB_map nI (fun k => nI (o.idxOf k + 1)) (List.range' 1 o.length)]
  · simp [und]
  · rfl
  · simp; omega
  · simp
  · intro k hk
    obtain ⟨i, hi, rfl⟩ := List.mem_range'.mp hk
    have z : dIdx d (nI (1 + i)) = some (nI (o.idxOf (1 + i))) := dIdx_sq h (io.mem (by omega) (by omega)) rfl
    simp [stepLc, z]
theorem s_behind {d e : D} {o q : List Nat} (h : Sqd d o) (k : Sqd e q) (io : IsOrd o) (iq : IsOrd q) (hl : o.length = q.length) : p_one_behind [d, e] = some (tD (beh o q)) := by
  have b9 := iq.hi
  simp [p_one_behind, fnH, argsE, g_one_behind, s_chks h k io iq hl, seqD_sq k]
  rw [lcB_map nI (fun p => nI (o.getD (p - 1) 0)) q]
  · simp [beh]
  · rfl
  · omega
  · simp
  · intro p hp
    have := iq.small p hp
    have z := dIx_i h (i := p - 1) (z := (p : Int) - 1) (by omega) (by omega)
    simp [-List.getD_eq_getElem?_getD, stepLc, z]
theorem s_falls {d : D} {o : List Nat} (h : Sqd d o) (io : IsOrd o) : p_falls [d] = some (dN (fls o)) := by
  have b9 := io.hi
  have b1 := io.lo
  have s1 : isSm ((o.length : Int) - 1) = true := isSm_of (by omega) (by omega)
  have e1 : ((o.length : Int) - 1).toNat = o.length - 1 := by omega
  simp [p_falls, fnO, argsE, g_falls, s_chk h io, dLen_sq h, s1, e1]
  rw [lcB_filter nI (fun p => decide (o.getD (p + 1) 0 < o.getD p 0)) nI (List.range (o.length - 1))]
  · simp [fls]
  · rfl
  · simp; omega
  · simp
  · intro p hp
    have hp := List.mem_range.mp hp
    have x1 := dIx_sq h (i := p) (by omega)
    have x2 := dIx_i h (i := p + 1) (z := (p : Int) + 1) (by omega) (by omega)
    have x3 := dIx_i h (i := p + 1) (z := 1 + (p : Int)) (by omega) (by omega)
    by_cases c : o.getD (p + 1) 0 < o.getD p 0 <;> simp [-List.getD_eq_getElem?_getD, stepLc, x1, x2, x3, c]
/-! ### words -/
theorem s_isword {d : D} {w : List Nat} {n : Nat} (h : Sqd d w) (h1 : 1 ≤ n) (h9 : n ≤ 9) (hw : Wd n w) (hl : w.length ≤ 40) : p_is_word [d, nI n] = some (.bool true) := by
  have z := s_awb (d := d) (o := w) (lo := 1) (hi := (n : Int) - 1) h fun k hk => by have := hw k hk; omega
  have c1 : ¬ (n : Int) < 1 := by omega
  have c2 : ¬ 9 < (n : Int) := by omega
  simp [p_is_word, fnH, argsE, g_is_word, s_within, h1, h9, c1, c2, z, dLen_sq h]
  omega
theorem s_chkword {d : D} {w : List Nat} {n : Nat} (h : Sqd d w) (h1 : 1 ≤ n) (h9 : n ≤ 9) (hw : Wd n w) (hl : w.length ≤ 40) : p_check_word [d, nI n] = some .none := by
  have z := s_chkm (n := (n : Int)) (by omega) (by omega)
  simp [p_check_word, fnH, argsE, g_check_word, z, s_isword h h1 h9 hw hl]
theorem s_word {d : D} {w : List Nat} {n : Nat} (h : Sqd d w) (h1 : 1 ≤ n) (h9 : n ≤ 9) (hw : Wd n w) (hl : w.length ≤ 40) : p_word_order [d, nI n] = some (tD (ordW n w)) := by
  have r1 := dRg2_nat (a := 1) (b := (n : Int) + 1) (m := 1) (n := n + 1) rfl rfl (by omega) (by omega)
  simp [p_word_order, fnH, argsE, g_word_order, s_chkword h h1 h9 hw hl, r1, seqD_sq h]
  rw [Option.bind_assoc]
  refine loop_bind (fun i r => ∃ j, r = [some (.sh d), some (.sh (nI n)), some (.sh (tD (ordW n (w.take i)))), jk j]) ⟨none, rfl⟩ ?_ ?_
  · rintro i x r hx ⟨j, rfl⟩
    rw [dN_get] at hx
    obtain ⟨s, hs, rfl⟩ := Option.map_eq_some_iff.mp hx
    have ws := hw s (List.mem_of_getElem? hs)
    have z := s_swapped (.t (ordW n (w.take i))) (i := s - 1) (j := s) (by rw [len_ordW]; omega) (by rw [len_ordW]; exact ws.2)
    have z' : p_swapped [tD (ordW n (w.take i)), .int ((s : Int) - 1), nI s] = some (tD (exch (ordW n (w.take i)) (s - 1) s)) := by
      rw [show (s : Int) - 1 = ((s - 1 : Nat) : Int) by omega]
      exact z
    refine ⟨[some (.sh d), some (.sh (nI n)), some (.sh (tD (ordW n (w.take (i + 1))))), some (.sh (nI s))], ?_, some _, rfl⟩
    rw [take_snoc hs, ordW_snoc]
    simp [stepF, z']
  · rintro r ⟨j, rfl⟩
    simp
theorem s_least {d : D} {w : List Nat} {n : Nat} (h : Sqd d w) (h1 : 1 ≤ n) (h9 : n ≤ 9) (hw : Wd n w) (hl : w.length ≤ 40) : p_is_least [d, nI n] = some (.bool (decide (lev (ordW n w) = w.length))) := by
  simp [p_is_least, fnH, argsE, g_is_least, s_word h h1 h9 hw hl, s_level (.t _) (ord_ordW h1 h9 hw), dLen_sq h, eq_nI, eq_int]
  omega
theorem s_aword {d : D} {o : List Nat} (h : Sqd d o) (io : IsOrd o) : ∃ f, p_a_word [d] = some (lD f) ∧ Wd o.length f ∧ ordW o.length f = o ∧ lev o = f.length := by
  have tp : dTup d = some (tD o) := by rcases h with rfl | rfl <;> rfl
  have f0 := s_falls (.t o) io
  obtain ⟨r', e, u, f, fin, rfl, le⟩ := wh_of (c := fTru (fVar 3)) (body := (gSeq (gExp (fApp 2 (up (f2 dAdd (f2 dIx (fVar 3) (fC (.int 0))) (fC (.int 1))))))
    (gSeq (gSet 1 (fCall 3 p_swapped (fCons (up (fVar 1)) (fCons (up (f2 dIx (fVar 3) (fC (.int 0)))) (fCons (up (f2 dAdd (f2 dIx (fVar 3) (fC (.int 0))) (fC (.int 1)))) fNil)))))
    (gSet 3 (upO (fCallO 1 p_falls (fCons (up (fVar 1)) fNil)))))))
    (fun k r => ∃ u f, Lw o u f ∧ k = lev u ∧ r = [some (.sh d), some (.sh (tD u)), some (.ow true (dN f.reverse)), some (.sh (lD (fls u)))])
    (fun r => ∃ u f, Lw o u f ∧ r = [some (.sh d), some (.sh (tD u)), some (.ow true (dN f.reverse)), some (.sh (lD (fls u)))] ∧ fls u = [])
    (by
      rintro k r ⟨u, f, lw, rfl, rfl⟩
      have b9 := lw.io.hi
      cases hf : fls u with
      | nil => exact .inl ⟨_, by simp [hf, truD]; rfl, u, f, lw, by rw [hf], hf⟩
      | cons p q =>
        have m : p ∈ fls u := by rw [hf]; exact .head _
        obtain ⟨a, b⟩ := mem_fls.mp m
        have nx := lw.next m
        have z := s_swapped (.t u) (i := p) (j := p + 1) (by omega) a
        have z2 := s_falls (.t (exch u p (p + 1))) nx.io
        have lv := lev_dn a b
        have big : f.length < 1000000 := by
          have := lw.lv
          have : lev o ≤ 90 := lev_le36 io
          omega
        refine .inr ⟨_, [some (.sh d), some (.sh (tD (exch u p (p + 1)))), some (.ow true (dN ((p + 1) :: f).reverse)), some (.sh (lD (fls (exch u p (p + 1)))))], lev (exch u p (p + 1)), by simp [hf, truD]; rfl, ?_, by omega, _, _, nx, rfl, rfl⟩
        have x0 : dIx (lD (p :: q)) (.int 0) = some (nI p) := dIx_i (.l (p :: q)) (i := 0) (z := 0) (by simp) rfl
        have z' : p_swapped [tD u, nI p, .int ((p : Int) + 1)] = _ := z
        have z3 : p_swapped [tD u, nI p, .int (1 + (p : Int))] = some (tD (exch u p (p + 1))) := by rw [show 1 + (p : Int) = (p : Int) + 1 by omega]; exact z
        simp [hf, x0, z, z', z3, z2, big]
        rw [dN_app]
        rfl) 1000 (lev o) [some (.sh d), some (.sh (tD o)), some (.ow true []), some (.sh (lD (fls o)))] ⟨o, [], .start io, rfl, rfl⟩ (by have : lev o ≤ 90 := lev_le36 io; omega)
  refine ⟨f, ?_, fin.wd, ?_⟩
  · have rv : dRev (.list (dN f.reverse)) = some (lD f) := by
      show some (PyData.list (dN f.reverse).reverse) = _
      rw [dN_rev, List.reverse_reverse]
    simp [p_a_word, fnH, argsE, g_a_word, s_chk h io, tp, f0, e, rv]
  · exact fin.done ((fls_lev fin.io).mp le)
end Pv

set_option Elab.async false
set_option linter.all false
set_option maxRecDepth 100000
set_option maxHeartbeats 4000000
namespace Pv
open PySem PySem.Spec L2

def g_l_pot : FS := (gSeq (gSet 2 (up (f2 dAdd (f2 dMul (fC (.int 79)) (fVar 1)) (fC (.int 67)))))
    (gSeq (gIf (fTst (up (f2 dLt (fVar 1) (f1 dLen (fVar 0))))) (gSet 2 (up (f1 dAbs (f2 dIx (fVar 0) (fVar 1))))) gNx)
    (gRetO (fLst (fCons (up (f2 dMax2 (fC (.int 0)) (f2 dSub (fVar 2) (f2 dPow (fC (.int 10)) (fC (.int 18)))))) (fCons (up (f2 dAdd (f2 dMod (f2 dMul (f1 dInt (f2 dAdd (f2 dMod (f1 dInt (fVar 2)) (fC (.int 2147483549))) (fC (.int 67)))) (f2 dPow (f2 dAdd (f2 dMul (fC (.int 2)) (fVar 1)) (fC (.int 3))) (fC (.int 3)))) (fC (.int 2147483477))) (fC (.int 1)))) fNil))))))
def p_l_pot : List D → Option (List D) := fnO 3 g_l_pot
def g_l_draw : FS := (gSeq (gIf (fTst (up (f2 dGt (f2 dIx (fBor 0) (fC (.int 0))) (fC (.int 0))))) (gSeq (gAsg (up (f2 dDivmod (f2 dIx (fBor 0) (fC (.int 0))) (fVar 1))) (sTup 2 (sCons (sSub 0 (up (fC (.int 0)))) (sCons (sName 2) sNil))))
    (gRet (up (fVar 2)))) gNx)
    (gSeq (gAsg (up (f2 dMod (f1 dInt (f2 dAdd (f2 dMul (f2 dIx (fBor 0) (fC (.int 1))) (fC (.int 48271))) (fC (.int 15398)))) (fC (.int 2147483587)))) (sSub 0 (up (fC (.int 1)))))
    (gRet (up (f2 dMod (f1 dInt (f2 dDiv (f2 dMod (f1 dInt (f2 dMul (f2 dIx (fBor 0) (fC (.int 1))) (f2 dIx (fBor 0) (fC (.int 1))))) (fC (.int 2147483549))) (fC (.int 13)))) (fVar 1))))))
def p_l_draw : List D → List D → Option (D × List D) := fnPH 3 g_l_draw
def g_l_pick : FS := (gRet (h2 dIx (up (fVar 1)) (fCallP 0 1 p_l_draw (fCons (up (f1 dLen (fVar 1))) fNil))))
def p_l_pick : List D → List D → Option (D × List D) := fnPH 2 g_l_pick
def g_l_order : FS := (gSeq (gPar 2 3 (vO (fRgO (fC (.int 1)) (f2 dAdd (fVar 1) (fC (.int 1))))) (vO (fLst fNil)))
    (gSeq (gFor (fRng1 (fCons (up (fVar 1)) fNil)) (sName 4) (gExp (fApp 3 (fPopAt 2 (fCallP 0 1 p_l_draw (fCons (up (f1 dLen (fBor 2))) fNil))))))
    (gRet (up (f1 dTup (fBor 3))))))
def p_l_order : List D → List D → Option (D × List D) := fnPH 5 g_l_order
def g_l_passed : FS := (gRet (fIf (fTst (h2 dEq (fCallP 0 1 p_l_draw (fCons (up (fC (.int 2))) fNil)) (up (fC (.int 0))))) (upO (o1 seqD (up (fVar 1)))) (up (f1 dTup (fVar 1)))))
def p_l_passed : List D → List D → Option (D × List D) := fnPH 2 g_l_passed
def g_l_wrong : FS := (gSeq (gSetO 1 (fLst fNil))
    (gSeq (gFor (fRng1 (fCons (up (f1 dLen (fVar 0))) fNil)) (sName 2) (gExp (fExt 1 (fLc (fRng2 (fCons (up (f2 dAdd (fVar 2) (fC (.int 1)))) (fCons (up (f1 dLen (fVar 0))) fNil))) (sName 3) (fTst (up (f2 dGt (f2 dIx (fVar 0) (fVar 2)) (f2 dIx (fVar 0) (fVar 3))))) (fTup (fCons (up (fVar 2)) (fCons (up (fVar 3)) fNil))) [3]))))
    (gRetV 1)))
def p_l_wrong : List D → Option (List D) := fnO 4 g_l_wrong
def g_l_exchanged : FS := (gSeq (gSetO 3 (o1 seqD (up (fVar 0))))
    (gSeq (gAsg (fTup (fCons (up (f2 dIx (fVar 0) (fVar 2))) (fCons (up (f2 dIx (fVar 0) (fVar 1))) fNil))) (sTup 2 (sCons (sSub 3 (up (fVar 1))) (sCons (sSub 3 (up (fVar 2))) sNil))))
    (gRet (up (f1 dTup (fBor 3))))))
def p_l_exchanged : List D → Option D := fnH 4 g_l_exchanged
def g_l_word_order : FS := (gSeq (gPar 2 3 (vH (up (fRgT (fC (.int 1)) (f2 dAdd (fVar 1) (fC (.int 1)))))) (vO (fLst fNil)))
    (gSeq (gFor (fSeq (up (fVar 0))) (sName 4) (gSeq (gExp (fApp 3 (upO (o1 dSortM (upO (fLst (fCons (up (f2 dIx (fVar 2) (f2 dSub (fVar 4) (fC (.int 1))))) (fCons (up (f2 dIx (fVar 2) (fVar 4))) fNil))))))))
    (gSet 2 (fCall 3 p_l_exchanged (fCons (up (fVar 2)) (fCons (up (f2 dSub (fVar 4) (fC (.int 1)))) (fCons (up (fVar 4)) fNil)))))))
    (gRet (fTup (fCons (up (fVar 2)) (fCons (fRel 3) fNil))))))
def p_l_word_order : List D → Option D := fnH 5 g_l_word_order
def g_l_word : FS := (gSeq (gIf (fTst (up (f2 dEq (fVar 1) (fC (.int 1))))) (gRetO (fLst fNil)) gNx)
    (gRetO (fLc (fRng1 (fCons (fCallP 0 1 p_l_draw (fCons (up (f2 dAdd (fVar 2) (fC (.int 1)))) fNil)) fNil)) (sName 3) fYes (h2 dAdd (up (fC (.int 1))) (fCallP 0 1 p_l_draw (fCons (up (f2 dSub (fVar 1) (fC (.int 1)))) fNil))) [3])))
def p_l_word : List D → List D → Option (List D × List D) := fnPO 4 g_l_word
def g_l_least_word : FS := (gSeq (gSet 2 (upO (fLst fNil)))
    (gSeq (gWh 1000 (fTst (h2 dNe (upO (fCallO 1 p_l_wrong (fCons (up (fVar 1)) fNil))) (upO (fLst fNil)))) (gSeq (gSet 3 (fCallP 0 1 p_l_pick (fCons (upO (fLc (fRng1 (fCons (up (f2 dSub (f1 dLen (fVar 1)) (fC (.int 1)))) fNil)) (sName 3) (fTst (up (f2 dGt (f2 dIx (fVar 1) (fVar 3)) (f2 dIx (fVar 1) (f2 dAdd (fVar 3) (fC (.int 1))))))) (up (fVar 3)) [3])) fNil)))
    (gSeq (gSet 1 (fCall 3 p_l_exchanged (fCons (up (fVar 1)) (fCons (up (fVar 3)) (fCons (up (f2 dAdd (fVar 3) (fC (.int 1)))) fNil)))))
    (gSet 2 (upO (fCatH (upO (fLst (fCons (up (f2 dAdd (fVar 3) (fC (.int 1)))) fNil))) (up (fVar 2))))))))
    (gRet (up (fVar 2)))))
def p_l_least_word : List D → List D → Option (D × List D) := fnPH 4 g_l_least_word
def g_l_word_right : FS := (gSeq (gSet 3 (fCallP 0 1 p_l_passed (fCons (up (fVar 1)) fNil)))
    (gSeq (gSet 4 (up (f1 dRepB (fVar 3))))
    (gSeq (gAsg (fCall 2 p_l_word_order (fCons (up (fVar 1)) (fCons (up (fVar 2)) fNil))) (sTup 2 (sCons (sName 5) (sCons (sName 6) sNil))))
    (gSeq (gIf (fOr (fTst (h2 dNeM (h1 dRepB (fCall 2 p_word_order (fCons (up (fVar 3)) (fCons (up (fVar 2)) fNil)))) (up (f1 dRepB (fVar 5))))) (fTst (h2 dNeM (h1 dRepB (fCall 2 p_word_order (fMapA (kv2 []) (fCons (up (fVar 2)) (fCons (up (fVar 1)) fNil))))) (up (f1 dRepB (fVar 5)))))) (gRet (up (fC (.bool false)))) gNx)
    (gSeq (gSet 7 (h2 dEq (up (f1 dLen (fVar 1))) (h1 dLen (upO (fCallO 1 p_l_wrong (fCons (up (fVar 5)) fNil))))))
    (gSeq (gIf (fOr (fTst (h2 dNeM (h1 dRepB (fCall 2 p_is_least (fCons (up (fVar 3)) (fCons (up (fVar 2)) fNil)))) (up (f1 dRepB (fVar 7))))) (fTst (h2 dNeM (h1 dRepB (fCall 2 p_is_least (fMapA (kv2 []) (fCons (up (fVar 2)) (fCons (up (f1 dTup (fVar 1))) fNil))))) (up (f1 dRepB (fVar 7)))))) (gRet (up (fC (.bool false)))) gNx)
    (gSeq (gIf (fTst (h2 dNe (up (fVar 7)) (h2 dEq (h1 dLen (upO (fLc (fRng1 (fCons (up (f1 dLen (fVar 6))) fNil)) (sName 11) (fTst (up (f2 dIn (f2 dIx (fVar 6) (fVar 11)) (fCut (fVar 6) ptNone (ptSome (fVar 11)))))) (up (fVar 11)) [11]))) (up (fC (.int 0)))))) (gRet (up (fC (.bool false)))) gNx)
    (gSeq (gIf (fOr (fTst (up (f2 dNeM (f1 dRepB (fVar 3)) (fVar 4)))) (fTst (h2 dGt (fCall 1 p_level (fCons (up (fVar 5)) fNil)) (up (f1 dLen (fVar 1)))))) (gRet (up (fC (.bool false)))) gNx)
    (gSeq (gIf (fTst (h2 dNe (fCall 2 p_word_order (fCons (up (f1 dRev (fVar 1))) (fCons (up (fVar 2)) fNil))) (fCall 1 p_undone (fCons (up (fVar 5)) fNil)))) (gRet (up (fC (.bool false)))) gNx)
    (gSeq (gIf (fOr (fTst (up (f2 dEq (fVar 2) (fC (.int 1))))) (fTst (up (f2 dEq (f1 dLen (fVar 1)) (fC (.int 40)))))) (gRet (up (fC (.bool true)))) gNx)
    (gSeq (gSet 8 (h2 dAdd (up (fC (.int 1))) (fCallP 0 1 p_l_draw (fCons (up (f2 dSub (fVar 2) (fC (.int 1)))) fNil))))
    (gSeq (gSet 9 (up (f2 dLt (f2 dIx (fVar 5) (f2 dSub (fVar 8) (fC (.int 1)))) (f2 dIx (fVar 5) (fVar 8)))))
    (gSeq (gSet 10 (fCall 2 p_word_order (fCons (upO (fCatO (o1 seqD (up (fVar 1))) (fLst (fCons (up (fVar 8)) fNil)))) (fCons (up (fVar 2)) fNil))))
    (gRet (vAnd (h2 dEq (fCall 1 p_level (fCons (up (fVar 10)) fNil)) (h2 dAdd (fCall 1 p_level (fCons (up (fVar 5)) fNil)) (fIf (fTru (fVar 9)) (up (fC (.int 1))) (up (fNeg (fC (.int 1))))))) (vOr (vNot (up (fVar 7))) (h2 dEq (fCall 2 p_is_least (fCons (upO (fCatH (up (fVar 1)) (upO (fLst (fCons (up (fVar 8)) fNil))))) (fCons (up (fVar 2)) fNil))) (up (fVar 9)))))))))))))))))))
def p_l_word_right : List D → List D → Option (D × List D) := fnPH 12 g_l_word_right
def g_l_least_right : FS := (gSeq (gSet 2 (up (f1 dLen (fVar 1))))
    (gSeq (gPar 3 4 (vH (fCallP 0 1 p_l_least_word (fCons (up (fVar 1)) fNil))) (vH (fCall 1 p_a_word (fCons (fCallP 0 1 p_l_passed (fCons (up (fVar 1)) fNil)) fNil))))
    (gSeq (gIf (fOr (fNot (fTru (f1 (dIsi "list") (fVar 4)))) (fOr (fTst (h2 dNe (up (f1 dLen (fVar 4))) (h1 dLen (upO (fCallO 1 p_l_wrong (fCons (up (fVar 1)) fNil)))))) (fTst (h2 dNe (h2 dIx (fCall 2 p_l_word_order (fCons (up (fVar 4)) (fCons (up (fVar 2)) fNil))) (up (fC (.int 0)))) (up (fVar 1)))))) (gRet (up (fC (.bool false)))) gNx)
    (gSeq (gIf (fOr (fTst (h2 dNotB (fCall 2 p_is_least (fCons (up (fVar 3)) (fCons (up (fVar 2)) fNil))) (up (fC (.bool true))))) (fOr (fTst (h2 dNotB (fCall 2 p_is_least (fCons (up (fVar 4)) (fCons (up (fVar 2)) fNil))) (up (fC (.bool true))))) (fTst (h2 dNe (fCall 2 p_word_order (fCons (up (fVar 3)) (fCons (up (fVar 2)) fNil))) (up (fVar 1)))))) (gRet (up (fC (.bool false)))) gNx)
    (gSeq (gSet 5 (upO (o1 dSortM (upO (fLc (fSeq (upO (fCallO 1 p_wrong_pairs (fCons (up (fVar 1)) fNil)))) (sTup 2 (sCons (sName 6) (sCons (sName 7) sNil))) fYes (upO (o1 dSortM (upO (fLst (fCons (up (f2 dIx (fVar 1) (fVar 6))) (fCons (up (f2 dIx (fVar 1) (fVar 7))) fNil)))))) [6, 7])))))
    (gSeq (gIf (fTst (h2 dNe (upO (o1 dSortM (h2 dIx (fCall 2 p_l_word_order (fCons (up (fVar 3)) (fCons (up (fVar 2)) fNil))) (up (fC (.int 1)))))) (up (fVar 5)))) (gRet (up (fC (.bool false)))) gNx)
    (gSeq (gIf (fAnd (fTst (up (f2 dGt (fVar 2) (fC (.int 1))))) (fAnd (fTst (up (f2 dLt (f1 dLen (fVar 3)) (fC (.int 39))))) (fTst (h2 dNotB (fCall 2 p_is_least (fCons (upO (fCatH (up (fVar 3)) (upO (fLst (fCons (up (fC (.int 1))) (fCons (up (fC (.int 1))) fNil)))))) (fCons (up (fVar 2)) fNil))) (up (fC (.bool false))))))) (gRet (up (fC (.bool false)))) gNx)
    (gSeq (gSet 4 (fCall 1 p_a_word (fMapA (kv1 []) (fCons (up (fVar 1)) fNil))))
    (gRet (vAnd (h2 dEq (fCall 2 p_word_order (fCons (up (fVar 4)) (fCons (up (fVar 2)) fNil))) (up (fVar 1))) (h2 dEq (h2 dIx (fCall 2 p_l_word_order (fCons (up (fVar 4)) (fCons (up (fVar 2)) fNil))) (up (fC (.int 0)))) (up (fVar 1)))))))))))))
def p_l_least_right : List D → List D → Option (D × List D) := fnPH 8 g_l_least_right
def g_l_behind_right : FS := (gSeq (gPar 2 3 (vH (upO (fCallPO 0 2 p_l_word (fCons (up (fVar 1)) (fCons (up (fC (.int 20))) fNil))))) (vH (upO (fCallPO 0 2 p_l_word (fCons (up (fVar 1)) (fCons (up (fC (.int 20))) fNil))))))
    (gSeq (gSet 4 (fCall 2 p_one_behind (fCons (fCall 2 p_word_order (fCons (up (fVar 2)) (fCons (up (fVar 1)) fNil))) (fCons (fCall 2 p_word_order (fCons (up (fVar 3)) (fCons (up (fVar 1)) fNil))) fNil))))
    (gRet (h2 dEq (fCall 2 p_word_order (fCons (upO (fCatB (fVar 2) (fVar 3))) (fCons (up (fVar 1)) fNil))) (up (fVar 4))))))
def p_l_behind_right : List D → List D → Option (D × List D) := fnPH 5 g_l_behind_right
def g_l_right : FS := (gSeq (gSet 1 (h2 dAdd (up (fC (.int 1))) (fCallP 0 1 p_l_draw (fCons (up (fC (.int 9))) fNil))))
    (gSeq (gPar 2 3 (vH (upO (fCallPO 0 2 p_l_word (fCons (up (fVar 1)) (fCons (up (fC (.int 40))) fNil))))) (vH (fCallP 0 1 p_l_order (fCons (up (fVar 1)) fNil))))
    (gSeq (gIf (fOr (fNot (fTst (fCallP 0 2 p_l_word_right (fCons (up (fVar 2)) (fCons (up (fVar 1)) fNil))))) (fNot (fTst (fCallP 0 2 p_l_word_right (fCons (fCallP 0 1 p_l_least_word (fCons (up (fVar 3)) fNil)) (fCons (up (fVar 1)) fNil)))))) (gRet (up (fC (.bool false)))) gNx)
    (gRet (vAnd (fCallP 0 1 p_l_least_right (fCons (up (fVar 3)) fNil)) (fCallP 0 1 p_l_behind_right (fCons (up (fVar 1)) fNil)))))))
def p_l_right : List D → List D → Option (D × List D) := fnPH 4 g_l_right
def g_law : FS := (gRet (h1 dAll (upO (fLc (fRng1 (fCons (up (f2 dMax2 (fC (.int 1)) (f2 dMin2 (fC (.int 3)) (f1 dLen (fVar 0))))) fNil)) (sName 1) fYes (fCallE 0 p_l_right (fCallO 2 p_l_pot (fCons (up (fVar 0)) (fCons (up (fVar 1)) fNil))) fNil) [1]))))
def p_law : List D → Option D := fnH 2 g_law
end Pv

set_option Elab.async false
set_option linter.all false
set_option maxRecDepth 100000
set_option maxHeartbeats 1000000
namespace Pv
open PySem PySem.Spec L2 Pm

theorem l_draw : DrawOk p_l_draw := ⟨fun {p n} hp h1 hn => by
  obtain ⟨a, b, rfl⟩ := hp
  have n0 : (0 : Int) < (n : Int) := by omega
  have n1 : (n : Int) < 1073741824 := by omega
  by_cases c : 0 < a
  · have e := vr_divmod (i := a) n0 n1
    obtain ⟨k, hk, hl⟩ := nat_of (Int.emod_nonneg a (by omega)) (Int.emod_lt_of_pos a n0)
    refine ⟨k, [.int (a / n), .int b], by omega, ⟨_, _, rfl⟩, ?_⟩
    simp [p_l_draw, fnPH, argsP, g_l_draw, c, e, ixN]
    exact hk
  · have m1 := vr_mulR (i := b) (j := 48271) (by decide) (by decide)
    have q0 := Int.emod_nonneg (b * 48271 + 15398) (show (2147483587 : Int) ≠ 0 by decide)
    have q1 := Int.emod_lt_of_pos (b * 48271 + 15398) (show (0 : Int) < 2147483587 by decide)
    have m2 := vr_mulR (i := (b * 48271 + 15398) % 2147483587) (j := (b * 48271 + 15398) % 2147483587) (by omega) (by omega)
    generalize hx : (b * 48271 + 15398) % 2147483587 = x at m2 q0 q1
    have d1 := vr_div (i := x * x % 2147483549) (j := 13) (by decide) (by decide)
    have d2 := vr_mod (i := x * x % 2147483549 / 13) n0
    obtain ⟨k, hk, hl⟩ := nat_of (Int.emod_nonneg (x * x % 2147483549 / 13) (by omega)) (Int.emod_lt_of_pos (x * x % 2147483549 / 13) n0)
    refine ⟨k, [.int a, .int x], by omega, ⟨_, _, rfl⟩, ?_⟩
    simp [p_l_draw, fnPH, argsP, g_l_draw, c, m1, hx, m2, d1, d2, ixN]
    exact hk⟩
theorem l_pick {p : List D} {d : D} {ds : List D} (hp : Pot p) (hd : seqD d = some ds) (h1 : 1 ≤ ds.length) (hn : ds.length ≤ 1000000) : ∃ x p', x ∈ ds ∧ Pot p' ∧ p_l_pick p [d] = some (x, p') := by
  obtain ⟨k, p', hk, hp', e⟩ := l_draw.run hp h1 hn
  have z := dIx_get hd (List.getElem?_eq_getElem hk)
  have l : dLen d = some (nI ds.length) := by
    unfold dLen
    rw [hd]
    rfl
  exact ⟨ds[k], p', List.getElem_mem hk, hp', by simp [p_l_pick, fnPH, argsP, g_l_pick, l, e, z]⟩
theorem l_order {p : List D} {n : Nat} (hp : Pot p) (h1 : 1 ≤ n) (h9 : n ≤ 9) : ∃ o p', IsOrd o ∧ o.length = n ∧ Pot p' ∧ p_l_order p [nI n] = some (tD o, p') := by
  have r1 := dRg2_nat (a := 1) (b := (n : Int) + 1) (m := 1) (n := n + 1) rfl rfl (by omega) (by omega)
  have s1 : isSm (n : Int) = true := isSm_of (by omega) (by omega)
  suffices H : ∃ r' l f q t, loopF (sName 4) (gExp (fApp 3 (fPopAt 2 (fCallP 0 1 p_l_draw (fCons (up (f1 dLen (fBor 2))) fNil))))) (dN (List.range n)) [some (.ow false p), some (.sh (nI n)), some (.ow true (dN (List.range' 1 n))), some (.ow true []), none] = some (.nx r') ∧ r' = [some (.ow false q), some (.sh (nI n)), some (.ow true (dN l)), some (.ow true (dN f)), jk t] ∧ Pot q ∧ f.length = n ∧ l.length = n - n ∧ (f ++ l).Perm (List.range' 1 n) by
    obtain ⟨r', l, f, q, t, e, rfl, hq, hf, hl, hp2⟩ := H
    cases List.eq_nil_of_length_eq_zero (show l.length = 0 by omega)
    rw [List.append_nil] at hp2
    refine ⟨f, q, ⟨by omega, by omega, by rw [hf]; exact hp2⟩, hf, hq, ?_⟩
    simp [p_l_order, fnPH, argsP, g_l_order, r1, s1, e]
  obtain ⟨r', e, h⟩ := loop_nx (g := sName 4) (body := gExp (fApp 3 (fPopAt 2 (fCallP 0 1 p_l_draw (fCons (up (f1 dLen (fBor 2))) fNil))))) (fun i r => ∃ l f q t, r = [some (.ow false q), some (.sh (nI n)), some (.ow true (dN l)), some (.ow true (dN f)), jk t] ∧ Pot q ∧ f.length = i ∧ l.length = n - i ∧ (f ++ l).Perm (List.range' 1 n)) (dN (List.range n)) 0 ⟨List.range' 1 n, [], p, none, rfl, hp, rfl, by simp, .refl _⟩ (r := [some (.ow false p), some (.sh (nI n)), some (.ow true (dN (List.range' 1 n))), some (.ow true []), none]) (by
    rintro i x r hx ⟨l, f, q, t, rfl, hq, hf, hl, hp2⟩
    obtain ⟨hi, rfl⟩ := dN_rng0 hx
    rw [Nat.zero_add] at hf hl
    obtain ⟨k, q', hk, hq', e⟩ := l_draw.run hq (n := l.length) (by omega) (by omega)
    have z : ixN l.length (k : Int) = some k := ixN_nat' hk
    have s2 : isSm (k : Int) = true := isSm_of (by omega) (by omega)
    have y : l[k]? = some l[k] := List.getElem?_eq_getElem hk
    have lf : f.length < 1000000 := by omega
    refine ⟨[some (.ow false q'), some (.sh (nI n)), some (.ow true (dN (l.eraseIdx k))), some (.ow true (dN (f ++ [l[k]]))), some (.sh (nI i))], ?_, l.eraseIdx k, f ++ [l[k]], q', some _, rfl, hq', ?_, ?_, ?_⟩
    · simp [stepF, e, z, s2, y, dN_get, dN_erase, lf]
    · simp [hf]
    · rw [List.length_eraseIdx, if_pos hk]
      omega
    · refine List.Perm.trans ?_ hp2
      rw [List.append_assoc]
      refine List.Perm.append_left f ?_
      exact perm_ers hk)
  obtain ⟨l, f, q, t, h1, h2, h3, h4, h5⟩ := h
  rw [dN_len, List.length_range, Nat.zero_add] at h3 h4
  exact ⟨r', l, f, q, t, e, h1, h2, h3, by omega, h5⟩
theorem l_passed {p : List D} {o : List Nat} (hp : Pot p) : ∃ d p', Sqd d o ∧ Pot p' ∧ p_l_passed p [tD o] = some (d, p') := by
  obtain ⟨k, p', hk, hp', e⟩ := l_draw.run hp (n := 2) (by omega) (by omega)
  have e : p_l_draw p [.int 2] = some (nI k, p') := e
  by_cases c : k = 0
  · subst c
    exact ⟨lD o, p', .l o, hp', by simp [p_l_passed, fnPH, argsP, g_l_passed, e]⟩
  · have c' : ¬ (k : Int) = 0 := by omega
    exact ⟨tD o, p', .t o, hp', by simp [p_l_passed, fnPH, argsP, g_l_passed, e, c, c']⟩
end Pv

set_option Elab.async false
set_option linter.all false
set_option maxRecDepth 100000
set_option maxHeartbeats 1000000
namespace Pv
open PySem PySem.Spec L2 Pm

theorem l_exchanged {o : List Nat} {i j : Nat} (hi : i < o.length) (hj : j < o.length) : p_l_exchanged [tD o, nI i, nI j] = some (tD (exch o i j)) := by
  have a1 := dIx_sq (.t o) hi
  have a2 := dIx_sq (.t o) hj
  have i1 := ixN_nat' hi
  have i2 := ixN_nat' hj
  simp [-List.getD_eq_getElem?_getD, p_l_exchanged, fnH, argsE, g_l_exchanged, a1, a2, i1, i2, dN_set]
  rfl
theorem flat_step {α : Type} (f : Nat → List α) (i : Nat) : (List.range (i + 1)).flatMap f = (List.range i).flatMap f ++ f i := by
  rw [List.range_succ, List.flatMap_append]
  simp
theorem flat_upto {α : Type} (f : Nat → List α) {i n : Nat} (h : i ≤ n) : ((List.range i).flatMap f).length ≤ ((List.range n).flatMap f).length := by
  induction h with
  | refl => exact Nat.le_refl _
  | step _ ih => rw [flat_step, List.length_append]; omega
theorem l_wrong {o : List Nat} (io : IsOrd o) : p_l_wrong [tD o] = some ((wps o).map cD) := by
  have b9 := io.hi
  have s1 : isSm (o.length : Int) = true := isSm_of (by omega) (by omega)
  have w90 := wps_le b9
  simp [p_l_wrong, fnO, argsE, g_l_wrong, s1]
  rw [Option.bind_assoc]
  refine loop_bind (fun i r => ∃ j1, r = [some (.sh (tD o)), some (.ow true (((List.range i).flatMap fun a => row o a (o.length - (a + 1))).map cD)), jk j1, none]) ⟨none, rfl⟩ ?_ ?_
  · rintro i x r hx ⟨j1, rfl⟩
    obtain ⟨hi, rfl⟩ := dN_rng0 hx
    have s2 : isSm ((i : Int) + 1) = true := isSm_of (by omega) (by omega)
    have s3 : isSm (1 + (i : Int)) = true := isSm_of (by omega) (by omega)
    have e2 : ((o.length : Int) - (i + 1)).toNat = o.length - (i + 1) := by omega
    have e3 := rngD_z (z := (i : Int) + 1) (a := i + 1) (n := o.length - (i + 1)) (by omega)
    have few : ((List.range i).flatMap fun a => row o a (o.length - (a + 1))).length + (row o i (o.length - (i + 1))).length ≤ 90 := by
      have z := flat_upto (fun a => row o a (o.length - (a + 1))) (show i + 1 ≤ o.length by omega)
      rw [flat_step, List.length_append] at z
      exact Nat.le_trans z w90
    refine ⟨[some (.sh (tD o)), some (.ow true (((List.range (i + 1)).flatMap fun a => row o a (o.length - (a + 1))).map cD)), some (.sh (nI i)), none], ?_, some _, rfl⟩
    simp [stepF, s1, s2, s3, e2, e3]
    rw [lcB_filter (fun b => nI (i + 1 + b)) (fun b => decide (o.getD i 0 > o.getD (i + 1 + b) 0)) (fun b => cD (i, i + 1 + b)) (List.range (o.length - (i + 1)))]
    · have few' : ((List.range i).flatMap fun a => row o a (o.length - (a + 1))).length + ((List.range (o.length - (i + 1))).filter fun b => decide (o.getD i 0 > o.getD (i + 1 + b) 0)).length ≤ 1000000 := by
        unfold row at few ⊢
        rw [List.length_map] at few
        omega
      rw [flat_step]
      simp [-List.getD_eq_getElem?_getD, -List.length_flatMap] at few' ⊢
      exact ⟨few', by unfold row; rw [List.map_map]; rfl⟩
    · rw [rgl_eq]; unfold dN; rw [List.map_map]; rfl
    · simp; omega
    · simp
    · intro b hb
      have hb := List.mem_range.mp hb
      have x1 := dIx_sq (.t o) (i := i) hi
      have x2 := dIx_sq (.t o) (i := i + 1 + b) (by omega)
      by_cases c : o.getD (i + 1 + b) 0 < o.getD i 0 <;> simp [-List.getD_eq_getElem?_getD, stepLc, x1, x2, c]
  · rintro r ⟨j1, rfl⟩
    simp [wps]
/-! ### words -/
abbrev eP (q : Nat × Nat) : D := .list [nI q.1, nI q.2]
theorem l_word_order {d : D} {w : List Nat} {n : Nat} (h : Sqd d w) (h1 : 1 ≤ n) (h9 : n ≤ 9) (hw : Wd n w) (hl : w.length ≤ 100) : p_l_word_order [d, nI n] = some (.tuple [tD (ordW n w), .list ((psW n w).map eP)]) := by
  have r1 := dRg2_nat (a := 1) (b := (n : Int) + 1) (m := 1) (n := n + 1) rfl rfl (by omega) (by omega)
  simp [p_l_word_order, fnH, argsE, g_l_word_order, r1, seqD_sq h]
  rw [Option.bind_assoc]
  refine loop_bind (fun i r => i ≤ w.length ∧ ∃ j, r = [some (.sh d), some (.sh (nI n)), some (.sh (tD (ordW n (w.take i)))), some (.ow true ((psW n (w.take i)).map eP)), jk j]) ⟨Nat.zero_le _, none, rfl⟩ ?_ ?_
  · rintro i x r hx ⟨hi, j, rfl⟩
    rw [dN_get] at hx
    obtain ⟨s, hs, rfl⟩ := Option.map_eq_some_iff.mp hx
    have ws := hw s (List.mem_of_getElem? hs)
    have lt := (List.getElem?_eq_some_iff.mp hs).1
    have z := l_exchanged (o := ordW n (w.take i)) (i := s - 1) (j := s) (by rw [len_ordW]; omega) (by rw [len_ordW]; exact ws.2)
    have z' : p_l_exchanged [tD (ordW n (w.take i)), .int ((s : Int) - 1), nI s] = some (tD (exch (ordW n (w.take i)) (s - 1) s)) := by
      rw [show (s : Int) - 1 = ((s - 1 : Nat) : Int) by omega]
      exact z
    have x1 := dIx_i (.t (ordW n (w.take i))) (i := s - 1) (z := (s : Int) - 1) (by rw [len_ordW]; omega) (by omega)
    have x2 := dIx_sq (.t (ordW n (w.take i))) (i := s) (by rw [len_ordW]; exact ws.2)
    have so := sort_two ((ordW n (w.take i)).getD (s - 1) 0) ((ordW n (w.take i)).getD s 0)
    have big : (psW n (w.take i)).length < 1000000 := by
      unfold psW
      rw [len_psA, List.length_take]
      omega
    refine ⟨[some (.sh d), some (.sh (nI n)), some (.sh (tD (ordW n (w.take (i + 1))))), some (.ow true ((psW n (w.take (i + 1))).map eP)), some (.sh (nI s))], ?_, lt, some _, rfl⟩
    rw [take_snoc hs, ordW_snoc, psW_snoc]
    simp [-List.getD_eq_getElem?_getD, stepF, z', x1, x2, so, big, prW]
  · rintro r ⟨hi, j, rfl⟩
    simp
theorem l_word {p : List D} {n most : Nat} (hp : Pot p) (h1 : 1 ≤ n) (h9 : n ≤ 9) (hm : most ≤ 100) : ∃ w p', Wd n w ∧ w.length ≤ most ∧ Pot p' ∧ p_l_word p [nI n, nI most] = some (dN w, p') := by
  by_cases c : n = 1
  · subst c
    exact ⟨[], p, fun _ m => (by cases m), Nat.zero_le _, hp, by simp [p_l_word, fnPO, argsP, g_l_word, eq_nI, eq_int]⟩
  · obtain ⟨k, p1, hk, hp1, e1⟩ := l_draw.run hp (n := most + 1) (by omega) (by omega)
    have e1 : p_l_draw p [.int ((most : Int) + 1)] = some (nI k, p1) := e1
    have sk : isSm (k : Int) = true := isSm_of (by omega) (by omega)
    have c' : ¬ (n : Int) = 1 := by omega
    simp [p_l_word, fnPO, argsP, g_l_word, eq_nI, eq_int, c, c', e1, sk]
    generalize hL : lcB _ _ _ _ _ _ = L
    obtain ⟨zs, r', rfl, w, q, rfl, hw, lw, hq, rfl⟩ := lcB_of hL (fun i zs r => ∃ w q, zs = dN w ∧ Wd n w ∧ w.length = i ∧ Pot q ∧ r = [some (.ow false q), some (.sh (nI n)), some (.sh (nI most)), none]) (by rw [dN_len, List.length_range]; omega) (by simp) ⟨[], p1, rfl, fun _ m => (by cases m), rfl, hp1, rfl⟩ (by
      rintro i x zs r hx hwi ⟨w, q, rfl, hw, lw, hq, rfl⟩
      obtain ⟨hi, rfl⟩ := dN_rng0 hx
      obtain ⟨s, q2, hs, hq2, e2⟩ := l_draw.run hq (n := n - 1) (by omega) (by omega)
      have e2 : p_l_draw q [.int ((n : Int) - 1)] = some (nI s, q2) := by
        rw [show (n : Int) - 1 = ((n - 1 : Nat) : Int) by omega]
        exact e2
      refine ⟨some (nI (1 + s)), [some (.ow false q2), some (.sh (nI n)), some (.sh (nI most)), none], ?_, by simp, w ++ [1 + s], q2, by rw [dN_app]; rfl, hw.app fun t m => ?_, by simp [lw], hq2, rfl⟩
      · simp [stepLc, e2]
      · cases List.mem_singleton.mp m
        omega)
    rw [dN_len, List.length_range] at lw
    exact ⟨w, hw, by omega, q, hq, by simp⟩
theorem lcB_wipe {g : FG} {ft : FT} {fe : FH} {vs : List Nat} {xs : List D} {r r1 : Ev} (h : wipeS vs r = some r1) (h1 : wipeS vs r1 = some r1) : lcB g ft fe vs xs r = lcB g ft fe vs xs r1 := by
  unfold lcB
  rw [lcF_wipe g ft fe vs xs h h1]
theorem l_least_word {p : List D} {o : List Nat} (hp : Pot p) (io : IsOrd o) : ∃ f p', p_l_least_word p [tD o] = some (lD f, p') ∧ Pot p' ∧ Wd o.length f ∧ ordW o.length f = o ∧ lev o = f.length := by
  simp [p_l_least_word, fnPH, argsP, g_l_least_word]
  generalize hL : whF _ _ _ _ = L
  obtain ⟨r', rfl, u, f, q, j, fin, hq, rfl, le⟩ : ∃ r', L = some (.nx r') ∧ ∃ u f q j, Lw o u f ∧ Pot q ∧ r' = [some (.ow false q), some (.sh (tD u)), some (.sh (lD f)), jk j] ∧ lev u = 0 := by
    rw [← hL]
    refine wh_of (fun k r => ∃ u f q j, Lw o u f ∧ Pot q ∧ k = lev u ∧ r = [some (.ow false q), some (.sh (tD u)), some (.sh (lD f)), jk j])
      (fun r => ∃ u f q j, Lw o u f ∧ Pot q ∧ r = [some (.ow false q), some (.sh (tD u)), some (.sh (lD f)), jk j] ∧ lev u = 0) ?_ 1000 (lev o) _ ⟨o, [], p, none, .start io, hp, rfl, rfl⟩ (by have : lev o ≤ 90 := lev_le36 io; omega)
    rintro k r ⟨u, f, q, j, lw, hq, rfl, rfl⟩
    have b9 := lw.io.hi
    have b1 := lw.io.lo
    have wr := l_wrong lw.io
    have en : dNe (.list ((wps u).map cD)) (.list []) = some (.bool (!decide (wps u = []))) := dNe_en (en_list (en_pair en_nI en_nI)) (by decide) (wps u) []
    cases hf : fls u with
    | nil =>
      have l0 := (fls_lev lw.io).mp hf
      have w0 : wps u = [] := List.eq_nil_of_length_eq_zero l0
      have en : dNe (.list ((wps u).map cD)) (.list []) = some (.bool false) := by rw [en, w0]; rfl
      exact .inl ⟨_, by simp [wr, en], u, f, q, j, lw, hq, rfl, l0⟩
    | cons a b =>
      have ne : wps u ≠ [] := fun e => by
        have : lev u = 0 := by unfold lev; rw [e]; rfl
        rw [(fls_lev lw.io).mpr this] at hf
        cases hf
      have en : dNe (.list ((wps u).map cD)) (.list []) = some (.bool true) := by rw [en, decide_eq_false ne]; rfl
      have nn : 1 ≤ (dN (fls u)).length := by rw [hf]; simp
      obtain ⟨x, q2, hx, hq2, e2⟩ := l_pick hq (d := lD (fls u)) (ds := dN (fls u)) rfl nn (by
        rw [dN_len]
        unfold fls
        have := List.length_filter_le (fun p => decide (u.getD (p + 1) 0 < u.getD p 0)) (List.range (u.length - 1))
        rw [List.length_range] at this
        omega)
      obtain ⟨t, ht, rfl⟩ := List.mem_map.mp hx
      obtain ⟨ta, tb⟩ := mem_fls.mp ht
      have nx := lw.next ht
      have z := l_exchanged (o := u) (i := t) (j := t + 1) (by omega) ta
      have z' : p_l_exchanged [tD u, nI t, .int ((t : Int) + 1)] = some (tD (exch u t (t + 1))) := z
      have lv := lev_dn ta tb
      have s1 : isSm ((u.length : Int) - 1) = true := isSm_of (by omega) (by omega)
      have e1 : ((u.length : Int) - 1).toNat = u.length - 1 := by omega
      refine .inr ⟨_, [some (.ow false q2), some (.sh (tD (exch u t (t + 1)))), some (.sh (lD ((t + 1) :: f))), some (.sh (nI t))], lev (exch u t (t + 1)), by simp [wr, en]; rfl, ?_, by omega, _, _, q2, some _, nx, hq2, rfl, rfl⟩
      simp [s1, e1]
      rw [lcB_wipe (r1 := [some (.ow false q), some (.sh (tD u)), some (.sh (lD f)), none]) (by cases j <;> rfl) (by rfl), lcB_filter nI (fun p => decide (u.getD (p + 1) 0 < u.getD p 0)) nI (List.range (u.length - 1))]
      · have e2' : p_l_pick q [.list (dN ((List.range (u.length - 1)).filter fun p => decide (u.getD (p + 1) 0 < u.getD p 0)))] = some (nI t, q2) := e2
        have big : f.length + 1 ≤ 1000000 := by
          have := lw.lv
          have : lev o ≤ 90 := lev_le36 io
          omega
        have big' : 1 + f.length ≤ 1000000 := by omega
        have ca : dCatL (.list [.int ((t : Int) + 1)]) (lD f) = some (dN ((t + 1) :: f)) := by
          show (if _ then _ else none) = _
          rw [if_pos (by simp [dN_len]; omega)]
          rfl
        simp [-List.getD_eq_getElem?_getD, e2', z', big, big', ca]
      · rfl
      · simp; omega
      · simp
      · intro p hp
        have hp := List.mem_range.mp hp
        have x1 := dIx_sq (.t u) (i := p) (by omega)
        have x2 := dIx_i (.t u) (i := p + 1) (z := (p : Int) + 1) (by omega) (by omega)
        have x3 := dIx_i (.t u) (i := p + 1) (z := 1 + (p : Int)) (by omega) (by omega)
        by_cases c : u.getD (p + 1) 0 < u.getD p 0 <;> simp [-List.getD_eq_getElem?_getD, stepLc, x1, x2, x3, c]
  obtain ⟨g1, g2⟩ := fin.done le
  exact ⟨f, q, by simp, hq, fin.wd, g1, g2⟩
end Pv

set_option Elab.async false
set_option linter.all false
set_option maxRecDepth 100000
set_option maxHeartbeats 1000000
namespace Pv
open PySem PySem.Spec L2 Pm

theorem l_passedL {p : List D} {o : List Nat} (hp : Pot p) : ∃ d p', Sqd d o ∧ Pot p' ∧ p_l_passed p [lD o] = some (d, p') := by
  obtain ⟨k, p', hk, hp', e⟩ := l_draw.run hp (n := 2) (by omega) (by omega)
  have e : p_l_draw p [.int 2] = some (nI k, p') := e
  by_cases c : k = 0
  · subst c
    exact ⟨lD o, p', .l o, hp', by simp [p_l_passed, fnPH, argsP, g_l_passed, e, eq_int]⟩
  · have c' : ¬ (k : Int) = 0 := by omega
    exact ⟨tD o, p', .t o, hp', by simp [p_l_passed, fnPH, argsP, g_l_passed, e, c, c', eq_int]⟩
theorem catL {a b : List Nat} (h : a.length + b.length ≤ 1000000) : dCatL (lD a) (lD b) = some (dN (a ++ b)) := by
  show (if _ then _ else none) = _
  rw [if_pos (by rw [dN_len, dN_len]; exact h), dN_app]
theorem en_eP : En 1 eP := en_lD.comp (fun q : Nat × Nat => [q.1, q.2]) fun a b h => by
  simp at h
  exact Prod.ext h.1 h.2
theorem ordW_small {n : Nat} {w : List Nat} (h1 : 1 ≤ n) (h9 : n ≤ 9) (hw : Wd n w) : ∀ k ∈ ordW n w, k < 100 := fun k hk => by
  have := (ord_ordW h1 h9 hw).small k hk
  rw [len_ordW] at this
  omega
theorem twice_nil : ∀ ps : List (Nat × Nat), ((List.range ps.length).filter fun i => decide (ps.getD i (0, 0) ∈ ps.take i)) = [] ↔ ps.Nodup := by
  intro ps
  rw [List.filter_eq_nil_iff]
  constructor
  · intro h
    rw [List.Nodup, List.pairwise_iff_getElem]
    intro i j hi hj lt e
    refine h j (List.mem_range.mpr hj) (decide_eq_true ?_)
    rw [List.getD_eq_getElem?_getD, List.getElem?_eq_getElem hj, Option.getD_some, ← e]
    exact List.mem_take_iff_getElem.mpr ⟨i, by omega, rfl⟩
  · intro nd i hi
    have hi := List.mem_range.mp hi
    rw [List.getD_eq_getElem?_getD, List.getElem?_eq_getElem hi, Option.getD_some, decide_eq_true_eq]
    intro m
    obtain ⟨j, hj, e⟩ := List.mem_take_iff_getElem.mp m
    rw [List.Nodup, List.pairwise_iff_getElem] at nd
    exact nd j i (by omega) hi (by omega) e
theorem l_word_right {p : List D} {w : List Nat} {n : Nat} (hp : Pot p) (h1 : 1 ≤ n) (h9 : n ≤ 9) (hw : Wd n w) (hl : w.length ≤ 40) : ∃ p', Pot p' ∧ p_l_word_right p [lD w, nI n] = some (.bool true, p') := by
  obtain ⟨d, p1, sd, hp1, r1⟩ := l_passedL (o := w) hp
  have io := ord_ordW h1 h9 hw
  have sm := ordW_small h1 h9 hw
  have wsm : ∀ k ∈ w, k < 100 := fun k hk => by have := hw k hk; omega
  have rd := rep_sq sd (by omega) wsm
  have ro := rep_sq (.t (ordW n w)) (by rw [len_ordW]; omega) sm
  have wo := l_word_order (.l w) h1 h9 hw (by omega)
  have s1 := s_word sd h1 h9 hw hl
  have s2 := s_word (.l w) h1 h9 hw hl
  have s3 := s_word (.l w.reverse) h1 h9 hw.rev (by rw [List.length_reverse]; exact hl)
  have wr := l_wrong io
  have ll : dLen (.list ((wps (ordW n w)).map cD)) = some (nI (lev (ordW n w))) := by
    show some (nI ((wps (ordW n w)).map cD).length) = _
    rw [List.length_map]
    rfl
  have lw : dLen (lD w) = some (nI w.length) := dLen_sq (.l w)
  have un := s_undone (.t (ordW n w)) io
  have lv := s_level (.t (ordW n w)) io
  have le := lev_le h1 h9 w hw
  have k1 := s_least sd h1 h9 hw hl
  have k2 := s_least (.t w) h1 h9 hw hl
  have tp : dTup (lD w) = some (tD w) := rfl
  have kv : kv2 [] [nI n, lD w] = [lD w, nI n] := rfl
  have kv' : kv2 [] [nI n, tD w] = [tD w, nI n] := rfl
  have rv : dRev (lD w) = some (lD w.reverse) := by
    show some (PyData.list (dN w).reverse) = _
    rw [dN_rev]
  obtain ⟨b, hb⟩ : ∃ b : Bool, b = decide (lev (ordW n w) = w.length) := ⟨_, rfl⟩
  rw [← hb] at k1 k2
  have du : dEq (nI w.length) (nI (lev (ordW n w))) = some (.bool b) := by
    rw [eq_nI, hb]
    congr 2
    exact decide_eq_decide.mpr eq_comm
  have nd := least_iff h1 h9 w hw
  simp [p_l_word_right, fnPH, argsP, g_l_word_right, r1, rd, wo, s1, s2, ro, kv, kv', wr, ll, lw, du, k1, k2, tp]
  have pl : (psW n w).length = w.length := len_psA w _
  have sp : isSm ((psW n w).length : Int) = true := isSm_of (by omega) (by omega)
  simp [sp]
  rw [lcB_filter nI (fun i => decide ((psW n w).getD i (0, 0) ∈ (psW n w).take i)) nI (List.range (psW n w).length)]
  · have tw := twice_nil (psW n w)
    generalize ((List.range (psW n w).length).filter fun i => decide ((psW n w).getD i (0, 0) ∈ (psW n w).take i)) = fl at tw ⊢
    have bf : (b = decide (fl = [])) = True := eq_true (by
      rw [hb]
      exact decide_eq_decide.mpr (nd.trans tw.symm))
    have ug : ¬ ((w.length : Int) < (lev (ordW n w) : Int)) := by omega
    have ru : ordW n w.reverse = und (ordW n w) := ordW_rev h1 h9 w hw
    have e1 : dEq (nI n) (.int 1) = some (.bool (decide (n = 1))) := eq_nI n 1
    have e40 : dEq (nI w.length) (.int 40) = some (.bool (decide (w.length = 40))) := eq_nI w.length 40
    simp [eq_int, bf, rd, lv, ug, lw, rv, s3, un, ru, ne_tD, e1, e40]
    by_cases c1 : n = 1 ∨ w.length = 40
    · rcases c1 with c1 | c1
      · simp [c1]; exact hp1
      · by_cases n1 : n = 1
        · simp [n1]; exact hp1
        · simp [n1, c1]; exact hp1
    · obtain ⟨n1, l40⟩ := not_or.mp c1
      obtain ⟨k, p2, hk, hp2, e2⟩ := l_draw.run hp1 (n := n - 1) (by omega) (by omega)
      have e2 : p_l_draw p1 [.int ((n : Int) - 1)] = some (nI k, p2) := by
        rw [show (n : Int) - 1 = ((n - 1 : Nat) : Int) by omega]
        exact e2
      have ws : Wd n [1 + k] := fun t m => by cases List.mem_singleton.mp m; omega
      have hw2 := hw.app ws
      have l2 : (w ++ [1 + k]).length ≤ 40 := by rw [List.length_append, List.length_singleton]; omega
      have t1 := s_word (.l (w ++ [1 + k])) h1 h9 hw2 l2
      have t2 := s_level (.t _) (ord_ordW h1 h9 hw2)
      have t3 := s_least (.l (w ++ [1 + k])) h1 h9 hw2 l2
      have ca := catL (a := w) (b := [1 + k]) (by simp; omega)
      have x1 := dIx_i (.t (ordW n w)) (i := 1 + k - 1) (z := 1 + (k : Int) - 1) (by rw [len_ordW]; omega) (by omega)
      have x2 := dIx_sq (.t (ordW n w)) (i := 1 + k) (by rw [len_ordW]; omega)
      have x2' : dIx (tD (ordW n w)) (.int (1 + (k : Int))) = some (nI ((ordW n w).getD (1 + k) 0)) := x2
      have lt := lev_letter h1 h9 hw (s := 1 + k) (by omega)
      rw [Nat.add_sub_cancel_left] at lt x1
      have dn : lD (w ++ [1 + k]) = .list (dN w ++ [.int (1 + (k : Int))]) := by
        show PyData.list (dN (w ++ [1 + k])) = _
        rw [dN_app]
        rfl
      rw [dn] at t1 t3
      have ca' : dCatL (lD w) (.list [.int (1 + (k : Int))]) = some (dN w ++ [.int (1 + (k : Int))]) := by
        show (if _ then _ else none) = _
        rw [if_pos (by rw [dN_len]; simp; omega)]
      have ll1 : (w ++ [1 + k]).length = w.length + 1 := by rw [List.length_append]; rfl
      rw [ll1] at t3
      have bg : w.length + 1 ≤ 1000000 := by omega
      rcases lt with ⟨u, e⟩ | ⟨u, e⟩
      · have e' : ((lev (ordW n (w ++ [1 + k])) : Nat) : Int) = (lev (ordW n w) : Int) + 1 := by omega
        cases b with
        | false => simp [-List.getD_eq_getElem?_getD, n1, l40, e2, x1, x2, x2', t1, ca', bg, u, t2, lv, eq_int, e']; exact hp2
        | true =>
          have l1 : lev (ordW n w) = w.length := by simpa using hb.symm
          have t3' : lev (ordW n (w ++ [1 + k])) = w.length + 1 := by omega
          rw [decide_eq_true t3'] at t3
          simp [-List.getD_eq_getElem?_getD, n1, l40, e2, x1, x2, x2', t1, t3, ca', bg, u, t2, lv, eq_int, e', eq_bool]
          exact hp2
      · have e' : ((lev (ordW n (w ++ [1 + k])) : Nat) : Int) = (lev (ordW n w) : Int) + -1 := by omega
        cases b with
        | false => simp [-List.getD_eq_getElem?_getD, n1, l40, e2, x1, x2, x2', t1, ca', bg, u, t2, lv, eq_int, e']; exact hp2
        | true =>
          have l1 : lev (ordW n w) = w.length := by simpa using hb.symm
          have t3' : ¬ lev (ordW n (w ++ [1 + k])) = w.length + 1 := by omega
          rw [decide_eq_false t3'] at t3
          simp [-List.getD_eq_getElem?_getD, n1, l40, e2, x1, x2, x2', t1, t3, ca', bg, u, t2, lv, eq_int, e', eq_bool]
          exact hp2
  · rfl
  · simp; omega
  · simp
  · intro i hi
    have hi := List.mem_range.mp hi
    have x1 : dIx (.list ((psW n w).map eP)) (nI i) = some (eP ((psW n w).getD i (0, 0))) := dIx_get (ds := (psW n w).map eP) rfl (by
      rw [List.getElem?_map, List.getD_eq_getElem?_getD, List.getElem?_eq_getElem hi]
      rfl)
    have x2 : dCut (.list ((psW n w).map eP)) none (some (i : Int)) = some (.list (((psW n w).take i).map eP)) := by
      show some (PyData.list (cutD _ _ _)) = _
      rw [cutD_to (by rw [List.length_map]; omega), List.map_take]
    have x3 := dIn_enL en_eP (by decide) ((psW n w).getD i (0, 0)) ((psW n w).take i)
    by_cases c : (psW n w).getD i (0, 0) ∈ (psW n w).take i <;> simp [-List.getD_eq_getElem?_getD, -List.map_take, stepLc, x1, x2, x3, c]
end Pv

set_option Elab.async false
set_option linter.all false
set_option maxRecDepth 100000
set_option maxHeartbeats 1000000
namespace Pv
open PySem PySem.Spec L2 Pm

theorem flat_sum {α : Type} (f : Nat → List α) : ∀ l : List Nat, (l.flatMap f).length = (l.map fun a => (f a).length).sum
  | [] => rfl
  | a :: l => by rw [List.flatMap_cons, List.length_append, List.map_cons, List.sum_cons, flat_sum f l]
theorem sum_mono {f g : Nat → Nat} (h : ∀ a, f a ≤ g a) : ∀ l : List Nat, (l.map f).sum ≤ (l.map g).sum
  | [] => Nat.le_refl _
  | a :: l => by
    rw [List.map_cons, List.sum_cons, List.map_cons, List.sum_cons]
    exact Nat.add_le_add (h a) (sum_mono h l)
theorem lev_36 {o : List Nat} (h : o.length ≤ 9) : lev o ≤ 36 := by
  unfold lev wps
  rw [flat_sum]
  refine Nat.le_trans (sum_mono (g := fun a => o.length - (a + 1)) (fun a => row_le o a _) _) ?_
  generalize o.length = n at h ⊢
  have : ∀ n, n < 10 → ((List.range n).map fun a => n - (a + 1)).sum ≤ 36 := by decide
  exact this n (by omega)
/-! ### sorted pairs -/
def toL (q : Nat × Nat) : List Int := [(q.1 : Int), (q.2 : Int)]
def srt (ps : List (Nat × Nat)) : List D := ((ps.map toL).mergeSort fun p q => decide (p ≤ q)).map encL
theorem rows_eP : ∀ ps : List (Nat × Nat), rowsD (ps.map eP) = some (ps.map toL)
  | [] => rfl
  | q :: ps => by
    rw [List.map_cons, List.map_cons]
    show (intsD [nI q.1, nI q.2]).bind _ = _
    have e : intsD [nI q.1, nI q.2] = some (toL q) := rfl
    rw [e, Option.bind_some, rows_eP ps]
    rfl
theorem sort_eP {ps : List (Nat × Nat)} (h : ps.length ≤ 1000000) : dSortM (.list (ps.map eP)) = some (srt ps) := by
  cases ps with
  | nil =>
    have e1 : sortI [] = [] := (sortI_perm []).eq_nil
    have e : dSort (.list []) = some ((sortI []).map PyData.int) := rfl
    unfold dSortM
    show (match dSort (.list []) with | some z => some z | none => dSortL (.list [])) = _
    rw [e, e1]
    simp [srt]
  | cons q r =>
    have e : dSort (.list ((q :: r).map eP)) = none := rfl
    unfold dSortM
    rw [e]
    show (rowsD ((q :: r).map eP)).bind _ = _
    rw [rows_eP, Option.bind_some, if_pos (by rw [List.length_map]; exact h)]
    rfl
theorem srt_perm {ps qs : List (Nat × Nat)} (h : ps.Perm qs) : srt ps = srt qs := by
  unfold srt
  congr 1
  refine List.Perm.eq_of_pairwise (le := fun a b : List Int => decide (a ≤ b) = true) (fun a b _ _ x y => List.le_antisymm (of_decide_eq_true x) (of_decide_eq_true y)) ?_ ?_ ?_
  · exact List.pairwise_mergeSort (le := fun a b : List Int => decide (a ≤ b)) (fun a b c x y => decide_eq_true (List.le_trans (of_decide_eq_true x) (of_decide_eq_true y))) (fun a b => by
      rw [Bool.or_eq_true, decide_eq_true_eq, decide_eq_true_eq]
      exact List.le_total a b) _
  · exact List.pairwise_mergeSort (le := fun a b : List Int => decide (a ≤ b)) (fun a b c x y => decide_eq_true (List.le_trans (of_decide_eq_true x) (of_decide_eq_true y))) (fun a b => by
      rw [Bool.or_eq_true, decide_eq_true_eq, decide_eq_true_eq]
      exact List.le_total a b) _
  · exact (List.mergeSort_perm _ _).trans ((h.map toL).trans (List.mergeSort_perm _ _).symm)
theorem en_encL : En 1 encL := en_list en_int
theorem srt_self (ps : List (Nat × Nat)) : dNe (.list (srt ps)) (.list (srt ps)) = some (.bool false) := by
  have z := dNe_en (en_list en_encL) (by decide) ((ps.map toL).mergeSort fun p q => decide (p ≤ q)) ((ps.map toL).mergeSort fun p q => decide (p ≤ q))
  rw [decide_eq_true rfl] at z
  exact z
theorem ordW_back {n : Nat} {f : List Nat} (hn : 1 < n) : ordW n (f ++ [1, 1]) = ordW n f := by
  have e : f ++ [1, 1] = (f ++ [1]) ++ [1] := by simp
  rw [e, ordW_snoc, ordW_snoc]
  exact exch_exch (by rw [len_ordW]; omega) (by rw [len_ordW]; exact hn)
theorem wps_mem {o : List Nat} {q : Nat × Nat} (h : q ∈ wps o) : q.1 < o.length ∧ q.2 < o.length ∧ o.getD q.2 0 < o.getD q.1 0 := by
  unfold wps at h
  obtain ⟨a, ha, hq⟩ := List.mem_flatMap.mp h
  unfold row at hq
  obtain ⟨b, hb, rfl⟩ := List.mem_map.mp hq
  obtain ⟨h1, h2⟩ := List.mem_filter.mp hb
  have ha := List.mem_range.mp ha
  have h1 := List.mem_range.mp h1
  have h2 : o.getD a 0 > o.getD (a + 1 + b) 0 := of_decide_eq_true h2
  exact ⟨ha, by show a + 1 + b < _; omega, h2⟩
theorem l_least_right {p : List D} {o : List Nat} (hp : Pot p) (io : IsOrd o) : ∃ p', Pot p' ∧ p_l_least_right p [tD o] = some (.bool true, p') := by
  have b9 := io.hi
  have b1 := io.lo
  have l36 := lev_36 b9
  obtain ⟨f, p1, r1, hp1, wf, af, lf⟩ := l_least_word hp io
  obtain ⟨d, p2, sd, hp2, r2⟩ := l_passed (o := o) hp1
  obtain ⟨g, ra, wg, ag, lg⟩ := s_aword sd io
  obtain ⟨g2, rb, wg2, ag2, lg2⟩ := s_aword (.t o) io
  have lo : dLen (tD o) = some (nI o.length) := dLen_sq (.t o)
  have lgn : dLen (lD g) = some (nI g.length) := dLen_sq (.l g)
  have lfn : dLen (lD f) = some (nI f.length) := dLen_sq (.l f)
  have wr := l_wrong io
  have ll : dLen (.list ((wps o).map cD)) = some (nI (lev o)) := by
    show some (nI ((wps o).map cD).length) = _
    rw [List.length_map]
    rfl
  have w1 := l_word_order (.l g) b1 b9 wg (by omega)
  have w2 := l_word_order (.l f) b1 b9 wf (by omega)
  have w3 := l_word_order (.l g2) b1 b9 wg2 (by omega)
  rw [ag] at w1
  rw [af] at w2
  rw [ag2] at w3
  have k1 := s_least (.l f) b1 b9 wf (by omega)
  have k2 := s_least (.l g) b1 b9 wg (by omega)
  rw [af, decide_eq_true lf] at k1
  rw [ag, decide_eq_true lg] at k2
  have q1 := s_word (.l f) b1 b9 wf (by omega)
  have q3 := s_word (.l g2) b1 b9 wg2 (by omega)
  rw [af] at q1
  rw [ag2] at q3
  have sf := s_wrong (.t o) io
  have isl : dIsi "list" (lD g) = some (.bool true) := rfl
  have kv : kv1 [] [tD o] = [tD o] := rfl
  simp [p_l_least_right, fnPH, argsP, g_l_least_right, lo, r1, r2, ra, isl, lgn, wr, ll, w1, k1, k2, q1, ne_tD, ne_nI, ne_int, lg, sf]
  have le90 := wps_le b9
  rw [lcB_map cD (fun q => eP (o.getD q.2 0, o.getD q.1 0)) (wps o)]
  · have ev : (wps o).map (fun q => eP (o.getD q.2 0, o.getD q.1 0)) = (Vp o).map eP := by
      rw [← wps_Vp o, List.map_map]
      rfl
    rw [ev]
    have t1 := sort_eP (ps := Vp o) (by rw [← lev_Vp]; omega)
    have t2 := sort_eP (ps := psW o.length f) (by show (psA _ _).length ≤ _; rw [len_psA]; omega)
    have pv := Vp_ps b1 b9 f wf (by rw [af]; exact lf)
    rw [af] at pv
    have t3 := srt_perm pv
    rw [← t3] at t2
    have t4 := srt_self (Vp o)
    have z1 : dIx (.tuple [tD o, .list ((psW o.length f).map eP)]) (.int 1) = some (.list ((psW o.length f).map eP)) := rfl
    have z0 : dIx (.tuple [tD o, .list ((psW o.length g2).map eP)]) (.int 0) = some (tD o) := rfl
    simp [t1, w2, z1, t2, t4]
    by_cases n1 : 1 < o.length
    · have l39 : f.length < 39 := by omega
      have w11 : Wd o.length [1, 1] := fun t m => by
        have : t = 1 := by simpa using m
        omega
      have k3 := s_least (.l (f ++ [1, 1])) b1 b9 (wf.app w11) (by rw [List.length_append]; show f.length + 2 ≤ 40; omega)
      rw [ordW_back n1, af, decide_eq_false (by rw [List.length_append]; show ¬ lev o = f.length + 2; omega)] at k3
      have dn : lD (f ++ [1, 1]) = .list (dN f ++ [.int 1, .int 1]) := by
        show PyData.list (dN (f ++ [1, 1])) = _
        rw [dN_app]
        rfl
      rw [dn] at k3
      have ca : dCatL (lD f) (.list [.int 1, .int 1]) = some (dN f ++ [.int 1, .int 1]) := by
        show (if _ then _ else none) = _
        rw [if_pos (by rw [dN_len]; simp; omega)]
      simp [n1, lfn, l39, ca, k3, kv, rb, q3, w3, z0, eq_tD]
      exact hp2
    · have n1' : ¬ (1 : Int) < (o.length : Int) := by omega
      simp [n1, n1', kv, rb, q3, w3, z0, eq_tD]
      exact hp2
  · rfl
  · omega
  · simp
  · intro q hq
    obtain ⟨a1, a2, a3⟩ := wps_mem hq
    have x1 := dIx_sq (.t o) (i := q.1) a1
    have x2 := dIx_sq (.t o) (i := q.2) a2
    have so := sort_two (o.getD q.1 0) (o.getD q.2 0)
    rw [Nat.min_eq_right (by omega), Nat.max_eq_left (by omega)] at so
    simp [-List.getD_eq_getElem?_getD, stepLc, x1, x2, so]
end Pv

set_option Elab.async false
set_option linter.all false
set_option maxRecDepth 100000
set_option maxHeartbeats 1000000
namespace Pv
open PySem PySem.Spec L2 Pm

theorem l_behind_right {p : List D} {n : Nat} (hp : Pot p) (h1 : 1 ≤ n) (h9 : n ≤ 9) : ∃ p', Pot p' ∧ p_l_behind_right p [nI n] = some (.bool true, p') := by
  obtain ⟨a, p1, wa, la, hp1, r1⟩ := l_word hp h1 h9 (most := 20) (by omega)
  obtain ⟨b, p2, wb, lb, hp2, r2⟩ := l_word hp1 h1 h9 (most := 20) (by omega)
  have r1 : p_l_word p [nI n, .int 20] = some (dN a, p1) := r1
  have r2 : p_l_word p1 [nI n, .int 20] = some (dN b, p2) := r2
  have t1 := s_word (.l a) h1 h9 wa (by omega)
  have t2 := s_word (.l b) h1 h9 wb (by omega)
  have t3 := s_word (.l (a ++ b)) h1 h9 (wa.app wb) (by rw [List.length_append]; omega)
  have ca := catL (a := a) (b := b) (by omega)
  have be := s_behind (.t (ordW n a)) (.t (ordW n b)) (ord_ordW h1 h9 wa) (ord_ordW h1 h9 wb) (by rw [len_ordW, len_ordW])
  have e := ordW_app h1 h9 wa wb
  rw [← e] at be
  have t1 : p_word_order [.list (dN a), nI n] = _ := t1
  have t2 : p_word_order [.list (dN b), nI n] = _ := t2
  have t3 : p_word_order [.list (dN (a ++ b)), nI n] = _ := t3
  simp [-dN_app, p_l_behind_right, fnPH, argsP, g_l_behind_right, r1, r2, t1, t2, t3, ca, be, eq_tD]
  exact hp2
theorem l_right {p : List D} (hp : Pot p) : ∃ p', p_l_right p [] = some (.bool true, p') := by
  obtain ⟨k, p1, hk, hp1, r1⟩ := l_draw.run hp (n := 9) (by omega) (by omega)
  have r1 : p_l_draw p [.int 9] = some (nI k, p1) := r1
  obtain ⟨w, p2, ww, lw, hp2, r2⟩ := l_word hp1 (n := 1 + k) (by omega) (by omega) (most := 40) (by omega)
  have r2 : p_l_word p1 [.int (1 + (k : Int)), .int 40] = some (dN w, p2) := r2
  obtain ⟨o, p3, io, lo, hp3, r3⟩ := l_order hp2 (n := 1 + k) (by omega) (by omega)
  have r3 : p_l_order p2 [.int (1 + (k : Int))] = some (tD o, p3) := r3
  obtain ⟨p4, hp4, r4⟩ := l_word_right hp3 (n := 1 + k) (by omega) (by omega) ww lw
  have r4 : p_l_word_right p3 [.list (dN w), .int (1 + (k : Int))] = some (.bool true, p4) := r4
  obtain ⟨f, p5, r5, hp5, wf, af, lf⟩ := l_least_word hp4 io
  have l36 := lev_36 io.hi
  obtain ⟨p6, hp6, r6⟩ := l_word_right hp5 (n := 1 + k) (by omega) (by omega) (by rw [← lo]; exact wf) (by omega : f.length ≤ 40)
  have r6 : p_l_word_right p5 [lD f, .int (1 + (k : Int))] = some (.bool true, p6) := r6
  obtain ⟨p7, hp7, r7⟩ := l_least_right hp6 io
  obtain ⟨p8, hp8, r8⟩ := l_behind_right hp7 (n := 1 + k) (by omega) (by omega)
  have r8 : p_l_behind_right p7 [.int (1 + (k : Int))] = some (.bool true, p8) := r8
  simp [p_l_right, fnPH, argsP, g_l_right, r1, r2, r3, r4, r5, r6, r7, r8]
theorem dIx_ints {ns : List Int} {k : Nat} (h : k < ns.length) : dIx (.list (ns.map .int)) (nI k) = some (.int (ns.getD k 0)) := by
  have z := dIx_get (d := .list (ns.map PyData.int)) (ds := ns.map PyData.int) rfl (i := k) (x := .int (ns.getD k 0)) (by
    rw [List.getElem?_map, List.getD_eq_getElem?_getD, List.getElem?_eq_getElem h]
    rfl)
  exact z
theorem dAll_rep (n : Nat) : dAll (.list (List.replicate n (.bool true))) = some (.bool true) := by
  unfold dAll
  show (boolsD (List.replicate n (.bool true))).map _ = _
  have : boolsD (List.replicate n (.bool true)) = some (List.replicate n true) := by
    induction n with
    | zero => rfl
    | succ n ih => rw [List.replicate_succ, List.replicate_succ, boolsD, ih]; rfl
  rw [this, Option.map_some]
  congr 2
  rw [List.all_eq_true]
  intro x hx
  exact (List.mem_replicate.mp hx).2
theorem l_pot {ns : List Int} {k : Nat} (hn : ns.length ≤ 1000000) (hk : k ≤ 1000000) : ∃ p, Pot p ∧ p_l_pot [.list (ns.map .int), nI k] = some p := by
  have w0 : dPow (.int 10) (.int 18) = some (.int 1000000000000000000) := by
    rw [vr_pow (by decide) (by decide) (by decide)]
    congr 2
  have w1 (x : Int) := vr_mulL (i := 79) (j := x) (by decide) (by decide)
  have w2 (x : Int) := vr_mulL (i := 2) (j := x) (by decide) (by decide)
  have w3 := vr_pow (i := 2 * (k : Int) + 3) (j := 3) (by decide) (by decide) (by omega)
  have w4 (x : Int) := vr_mod (i := x) (j := 2147483549) (by decide)
  have w5 (x : Int) := vr_mod (i := x) (j := 2147483477) (by decide)
  have w6 (x : Int) (h : x % 2147483549 + 67 < 2 ^ 64) (h2 : -(2 ^ 64) < x % 2147483549 + 67) (y : Int) := vr_mulL (i := x % 2147483549 + 67) (j := y) h2 h
  have ln : dLen (.list (ns.map .int)) = some (nI ns.length) := by
    show some (nI (ns.map PyData.int).length) = _
    rw [List.length_map]
  simp [p_l_pot, fnO, argsE, g_l_pot, w1, ln]
  generalize hG : (@ite (Option Fl) (k < ns.length) _ _ _) = G
  obtain ⟨x, rfl⟩ : ∃ x : Int, G = some (Fl.nx [some (.sh (.list (ns.map .int))), some (.sh (nI k)), some (.sh (.int x))]) := by
    rw [← hG]
    by_cases c : k < ns.length
    · have z := dIx_ints c
      simp [-List.getD_eq_getElem?_getD, c, z]
    · simp [c]
  clear hG
  have m0 := Int.emod_nonneg x (show (2147483549 : Int) ≠ 0 by decide)
  have m1 := Int.emod_lt_of_pos x (show (0 : Int) < 2147483549 by decide)
  have w7 := w6 x (by omega) (by omega)
  simp [w0, w2, w3, w4, w5, w7]
  exact ⟨_, _, rfl⟩
theorem l_law (ns : List Int) (h : ns.length ≤ 63) : p_law [.list (ns.map .int)] = some (.bool true) := by
  have ln : dLen (.list (ns.map .int)) = some (nI ns.length) := by
    show some (nI (ns.map PyData.int).length) = _
    rw [List.length_map]
  obtain ⟨n, n1, n3, hd⟩ : ∃ n : Nat, 1 ≤ n ∧ n ≤ 3 ∧ (if (1 : Int) < (if (ns.length : Int) < 3 then (ns.length : Int) else 3) then (if (ns.length : Int) < 3 then (ns.length : Int) else 3) else 1) = (n : Int) := by
    refine ⟨max 1 (min 3 ns.length), by omega, by omega, ?_⟩
    split <;> split <;> omega
  have sn : isSm (n : Int) = true := isSm_of (by omega) (by omega)
  simp [p_law, fnH, argsE, g_law, ln, -decide_eq_true_eq]
  rw [hd]
  simp [sn]
  rw [lcB_map nI (fun _ => .bool true) (List.range n)]
  · simp [List.map_const', dAll_rep]
  · rfl
  · rw [List.length_range]; omega
  · simp
  · intro k hk
    obtain ⟨p, hp, z1⟩ := l_pot (ns := ns) (k := k) (by omega) (by have := List.mem_range.mp hk; omega)
    obtain ⟨p', z2⟩ := l_right hp
    simp [stepLc, z1, z2]
end Pv

set_option Elab.async false
set_option linter.all false
set_option maxRecDepth 100000
set_option maxHeartbeats 2000000
namespace Lb
open PySem PySem.Spec PyProof.Rows L2

/-! ### orders as lists of whole numbers -/
def vl (o : List Nat) : List V := (o.map fun k : Nat => (k : Int)).map V.int
theorem vl_len (o : List Nat) : (vl o).length = o.length := by unfold vl; rw [List.length_map, List.length_map]
theorem vl_get {o : List Nat} {i k : Nat} (h : o[i]? = some k) : (vl o)[i]? = some (.int (k : Int)) := by
  unfold vl
  rw [List.getElem?_map, List.getElem?_map, h]
  rfl
theorem rg_vl (n : Nat) : rgV 1 ((n : Int) + 1) = vl (List.range' 1 n) := by
  unfold rgV vl
  rw [show ((n : Int) + 1 - 1).toNat = n by omega, List.range'_eq_map_range, List.map_map, List.map_map]
  apply List.map_congr_left
  intro k _
  show V.int (1 + (k : Int)) = V.int (((1 + k : Nat)) : Int)
  rw [show ((1 + k : Nat) : Int) = 1 + (k : Int) by omega]
structure IsOrd (o : List Nat) : Prop where
  lo : 1 ≤ o.length
  hi : o.length ≤ 9
  perm : o.Perm (List.range' 1 o.length)

theorem dp_vl {K : PySem.W.Frag} {H : Hp} : ∀ o : List Nat, DpAll K H (vl o) (dl o)
  | [] => .nil
  | k :: r => .cons (.int _) (dp_vl r)
theorem IsOrd.small {o : List Nat} (h : IsOrd o) : ∀ k ∈ o, 1 ≤ k ∧ k ≤ o.length := fun k hk => by
  have z := (h.perm.mem_iff (a := k)).mp hk
  obtain ⟨i, hi, e⟩ := List.mem_range'.mp z
  omega
theorem IsOrd.nice {o : List Nat} (h : IsOrd o) : Nice 1 404 (.list (dl o)) ∧ Nice 1 404 (.tuple (dl o)) := nice_ord (fun k hk => by have := h.small k hk; have := h.hi; omega) (by have := h.hi; omega)
/-- the code tables of the defs that make generators -/
def Tabs (H : Hp) (T : Addr → Prop) : Prop := ∀ t, T t → GxR.TabG H t
theorem Tabs.put {T : Addr → Prop} {H : Hp} {p : Addr} {o : HO} (h : Tabs H T) (n : ¬ T p) : Tabs (upd H p o) T := fun t ht => by
  obtain ⟨ps, e, q⟩ := h t ht
  have ne : p ≠ t := fun z => n (by rw [z]; exact ht)
  exact ⟨ps, by rw [upd_ne ne.symm]; exact e, q⟩
def Go (T : Addr → Prop) (H H' : Hp) : Prop := Tabs H' T ∧ ∀ b u, ¬ T b → H b = some u → H' b = some u
theorem Go.refl {T : Addr → Prop} {H : Hp} (h : Tabs H T) : Go T H H := ⟨h, fun _ _ _ e => e⟩
theorem Go.trans {T : Addr → Prop} {H H1 H2 : Hp} (a : Go T H H1) (b : Go T H1 H2) : Go T H H2 := ⟨b.1, fun c u n e => b.2 c u n (a.2 c u n e)⟩
theorem Go.tabbed {T : Addr → Prop} {t : Addr} {H H' : Hp} (ht : T t) (h0 : Tabs H T) (h : GxR.Tabbed t H H') : Go T H H' := by
  refine ⟨fun x hx => ?_, fun b u n e => by rw [h.2 b fun z => n (by rw [z]; exact ht)]; exact e⟩
  by_cases e : x = t
  · rw [e]
    exact h.1
  · obtain ⟨ps, e2, q⟩ := h0 x hx
    exact ⟨ps, by rw [h.2 x e]; exact e2, q⟩
theorem tab_ne {T : Addr → Prop} {p : Addr} {H : Hp} (h : Tabs H T) (n : H p = none) : ¬ T p := fun z => by
  obtain ⟨ps, e, _⟩ := h p z
  rw [e] at n
  cases n
theorem Go.new {T : Addr → Prop} {p : Addr} {H : Hp} {o : HO} (h : Tabs H T) (n : H p = none) : Go T H (upd H p o) :=
  ⟨h.put (tab_ne h n), fun b u _ e => by
    rw [upd_ne (ne_of_none e n)]
    exact e⟩
theorem Go.free {T : Addr → Prop} {p : Addr} {H H' : Hp} (g : Go T H H') (n : H' p = none) : H p = none := by
  cases e : H p with
  | none => rfl
  | some u =>
    have := g.2 p u (tab_ne g.1 n) e
    rw [n] at this
    cases this
theorem ne_tab {T : Addr → Prop} {a : Addr} {H : Hp} {u : HO} (h : Tabs H T) (e : H a = some u) (nu : ∀ ps, u ≠ .tbl ps) : ¬ T a := fun z => by
  obtain ⟨ps, e2, _⟩ := h a z
  rw [e2] at e
  cases e
  exact nu ps rfl
theorem Go.ord {T : Addr → Prop} {a : Addr} {H H' : Hp} {b : Bool} {xs : List V} (g : Go T H H') (t : Tabs H T) (h : OrdK b H a xs) : OrdK b H' a xs := by
  cases b with
  | false => exact g.2 a _ (ne_tab t h fun _ z => by cases z) h
  | true =>
    obtain ⟨o, d, h⟩ := h
    exact ⟨o, d, g.2 a _ (ne_tab t h fun _ z => by cases z) h⟩
theorem Go.seqL {K : PySem.W.Frag} {T : Addr → Prop} {a : Addr} {H H' : Hp} {xs : List V} (g : Go T H H') (t : Tabs H T) (h : SqL K H a xs) : SqL K H' a xs := by
  rcases h with (h | ⟨o, h⟩) | h
  · exact .inl (.inl (g.2 a _ (ne_tab t h fun _ z => by cases z) h))
  · exact .inl (.inr ⟨o, g.2 a _ (ne_tab t h fun _ z => by cases z) h⟩)
  · exact .inr h
theorem Go.seqT {K : PySem.W.Frag} {T : Addr → Prop} {a : Addr} {H H' : Hp} {xs : List V} (g : Go T H H') (t : Tabs H T) (h : SqT K H a xs) : SqT K H' a xs := by
  rcases h with (h | ⟨o, h⟩) | h
  · exact .inl (.inl (g.2 a _ (ne_tab t h fun _ z => by cases z) h))
  · exact .inl (.inr ⟨o, g.2 a _ (ne_tab t h fun _ z => by cases z) h⟩)
  · exact .inr h
theorem Go.lt {K : PySem.W.Frag} {T : Addr → Prop} {a : Addr} {H H' : Hp} {xs : List V} (g : Go T H H') (t : Tabs H T) (h : SeqLT K H a xs) : SeqLT K H' a xs := h.imp (g.seqL t) (g.seqT t)

/-! ### the text -/
def topS (i : Nat) : Stmt := PySem.Challenge.pw_lowerboards_k14_whole_words_and_their_or.main.body.getD i (.Pass ⟨0, 0, 0, 0⟩)
abbrev s_is_integer : Stmt := topS 2
abbrev s_is_order : Stmt := topS 3
theorem sc_is_order : FnScope ["value"] ["value"] (defScope s_is_order) := ⟨rfl, rfl, rfl, by decide +kernel, rfl, by decide +kernel, by decide +kernel⟩

section
variable {P : Program} {w : World} {K : PySem.W.Frag} {mg : Str → Option Value} {base : Heap} {T : Addr → Prop}

/-- what of the built-ins the program leaves as it is -/
structure Bl (mg : Str → Option Value) : Prop where
  isinstance : mg "isinstance" = none
  int : mg "int" = none
  bool : mg "bool" = none
  list : mg "list" = none
  tuple : mg "tuple" = none
  len : mg "len" = none
  all : mg "all" = none
  sorted : mg "sorted" = none
  range : mg "range" = none

/-- is_integer of an int, at the library's level -/
theorem isint_call {fI : Addr} {fdI : FuncData} (FI : Fun K "is_integer" "is_integer" s_is_integer fI fdI) (B : Bl mg) (M : L2.Mod K mg base) {A : Around} {R : Result → Shared → Prop} {s : Shared} {i : Int} {t : Tok} (hd : A.depth < recursionLimit) (hk : ∀ b o, base.get? b = some o → s.heap.get? b = some o)
    (h : ∀ s', PySem.Keeps s s' → R (.ok (.ret (.bool true))) s') : codeAny (model P w) A (.call (.ref fI) ⟨[.int i t], []⟩) R s := by
  obtain ⟨oc, od, kV, doc, pm, an, cdv, ct, osl, rfl, lk, hcd⟩ := FI.ex
  refine Att.call_fn (binds := [("value", .int i t)]) (M.kin.keeps hk) (M.nolimit.keeps hk) lk hcd hd (BindsTo.of_eq (by first | rfl | with_unfolding_all rfl)) (by first | rfl | decide | with_unfolding_all rfl) (fun s₁ IC => ?_) rfl rfl rfl
  obtain ⟨h₁, tk₁, rfl⟩ := IC.toInCall.same
  have k1 : ∀ b o, s.heap.get? b = some o → h₁.get? b = some o := IC.toInCall.keep
  have hn := IC.toInCall.ns
  have kb : ∀ b o, base.get? b = some o → h₁.get? b = some o := fun b o e => k1 b o (hk b o e)
  obtain ⟨mb, n1, n2⟩ := M.blt
  have isi : ∀ {tp : String} {b : Bool} {p1 p2 p3 p4 : Pos} {x : Str} {tk : Nat} {E' : Value → Shared → Prop} {Q : Value → Shared → Prop} (_ : mg x = none) (_ : bootBuiltins x = some (.type tp)) (_ : x ≠ "__name__") (_ : (x == ("__debug__" : Str)) = false)
      (_ : (envOfC "is_integer" (defScope s_is_integer) s.heap.objs.size fI cdv).kindOf x = some .globalImplicit) (_ : PySem.W.kitOne K (.type "int") (.type tp) = some b) (_ : ∀ tk', Q (.bool b) ⟨h₁, s.gens, s.drawn, tk', s.os⟩),
      wpAny (model P w) (A.deeper (envOfC "is_integer" (defScope s_is_integer) s.heap.objs.size fI cdv)) (eval (.Call (.Name "isinstance" p1) [.Name "value" p2, .Name x p3] [] p4) (envOfC "is_integer" (defScope s_is_integer) s.heap.objs.size fI cdv)) Q E' ⟨h₁, s.gens, s.drawn, tk, s.os⟩ := by
    intro tp b p1 p2 p3 p4 x tk E' Q m1 m2 m3 m4 m5 m6 q
    refine wpAny_Call_Name_kw (Calls.Name_function_global rfl (by rfl) (Calls.loadGlobal_builtin (M.glob.keeps kb) B.isinstance (n1.keeps kb) ((n2 _ (by decide)).trans (by decide +kernel : bootBuiltins "isinstance" = some (.builtin "isinstance"))) ?_) (by decide))
    refine PyProof.Rows.callWith_builtin1 ?_ (by rfl) (by rfl)
    show wpAny _ _ (spliced ((false, eval (.Name "value" p2) _) :: (false, eval (.Name x p3) _) :: [])) _ _ _
    refine Calls.spliced_cons (wpAny_Name (wpAny_loadName_local (v := .int i t) rfl (by rfl) hn (by rfl) (Calls.spliced_cons (Calls.Name_function_global rfl m5 (Calls.loadGlobal_builtin (M.glob.keeps kb) m1 (n1.keeps kb) ((n2 _ m3).trans m2) (Calls.spliced_nil ?_)) m4))) (by decide))
    exact PySem.W.kia_one (PySem.W.kitx_int) (M.kin.keeps kb) True.intro m6 (fun z => nomatch z) q
  refine wpAny_execs_cons (wpAny_Return_some ?_)
  refine BoolOp_and (isi (tp := "int") B.int (by decide +kernel) (by decide) (by decide) (by rfl) (kit_ty (r := true) (by decide +kernel)) fun tk => ?_)
  refine wpAny_truthy_bool ?_
  refine BoolOp_one (UnaryOp_ (isi (tp := "bool") B.bool (by decide +kernel) (by decide) (by decide) (by rfl) (kit_ty (r := false) (by decide +kernel)) fun tk => ?_))
  exact not_of (wpAny_truthy_bool (h _ ⟨h₁, tk, rfl, k1⟩))
/-- the elements of is_order's generator -/
theorem elt_isint {X : Cx} {fI : Addr} {fdI : FuncData} {scope : Scope} {p1 p2 p3 : Pos} {k : Nat} (FI : Fun X.K "is_integer" "is_integer" s_is_integer fI fdI) (B : Bl X.mg) (gI : X.mg "is_integer" = some (.ref fI)) (hr : Room k X.A)
    (hk : scope.kind = .function) (h1 : scope.names.lookup ("is_integer" : Str) = some .globalImplicit) (h2 : scope.names.lookup ("thing" : Str) = some .local) :
    EltD X scope "thing" (.Call (.Name "is_integer" p1) [.Name "thing" p2] [] p3) (fun v => ∃ i, v = .int i) (fun _ => true) := by
  rintro cenv A' E' v u s₂ m₂ M rv ⟨i, rfl⟩ hA hD hU hsc hgl hbl hb hn hm
  obtain ⟨t, rfl⟩ := rv
  have kd : cenv.scope.kind = .function := by rw [hsc]; exact hk
  have kI : cenv.kindOf "is_integer" = some .globalImplicit := by show cenv.scope.names.lookup _ = _; rw [hsc]; exact h1
  have kT : cenv.kindOf "thing" = some .local := by show cenv.scope.names.lookup _ = _; rw [hsc]; exact h2
  refine wpAny_Call_Name_kw (Calls.Name_function_global kd kI (Calls.loadGlobal_global (by rw [hgl]; exact M.glob.keeps hb) gI ?_) (by decide))
  refine PySem.W.callWith_K (h₀ := X.base) M.kin FI.kp ?_ (by rfl) (by rfl)
  show wpAny _ _ (spliced ((false, eval (.Name "thing" p2) cenv) :: [])) _ _ _
  refine Calls.spliced_cons (wpAny_Name (wpAny_loadName_local kd kT hn hm (Calls.spliced_nil ⟨M.kin.keeps hb, ?_⟩)) (by decide))
  refine wpAny_call (isint_call FI B M (by have := hr.dp; omega) hb fun s' hs => ⟨rfl, hs⟩)

theorem gens_of {env : Env} {scope : Scope} {x : Str} (h1 : scope.kind = .function) (h2 : scope.isCoroutine = false) (h3 : ∀ y ∈ scope.names, y.2 ≠ .cell ∧ y.2 ≠ .free) (h4 : scope.names.lookup (".0" : Str) = some NameKind.local) (h5 : scope.names.lookup x = some .local) : GxR.GenS env scope x :=
  ⟨h1, h2, fun y hy => (h3 y hy).1, h4, h5, fun y hy e => absurd e (h3 y hy).2⟩
theorem ty_seq {H : Hp} {a : Addr} {xs : List V} (h : SeqLT K H a xs) : ∃ t, TyX K H (.ref a) t ∧ PySem.W.kitAny K t [.type "list", .type "tuple"] = some true := by
  have kl : PySem.W.kitAny K (.type "list") [.type "list", .type "tuple"] = some true := kitAny_cons (b := true) (kit_ty (by decide +kernel)) (fun z => nomatch z) fun _ => rfl
  have kt : PySem.W.kitAny K (.type "tuple") [.type "list", .type "tuple"] = some true := kitAny_cons (b := false) (kit_ty (by decide +kernel)) (fun _ => kitAny_cons (b := true) (kit_ty (by decide +kernel)) (fun z => nomatch z) fun _ => rfl) fun z => nomatch z
  rcases h with h | h
  · rcases h with (h | ⟨o, h⟩) | ⟨o, _, _, h, hc, _⟩
    · exact ⟨_, .base (.lst h), kl⟩
    · exact ⟨_, .base (.frz h), kl⟩
    · exact ⟨_, .kList h hc, kl⟩
  · rcases h with (h | ⟨o, h⟩) | ⟨o, _, _, h, hc, _⟩
    · exact ⟨_, .base (.tup h), kt⟩
    · exact ⟨_, .fTuple h, kt⟩
    · exact ⟨_, .kTuple h hc, kt⟩
theorem lenV_seq {H : Hp} {a : Addr} {xs : List V} (h : SeqLT K H a xs) : LenV K (.ref a) H xs.length := by
  rcases h with h | h
  · exact .inl ⟨_, h, rfl⟩
  · exact .inr ⟨_, h, rfl⟩
def spIsOrder (K : PySem.W.Frag) (T : Addr → Prop) : Sp := fun vs H Q _ => ∃ (a : Addr) (o : List Nat), vs = [.ref a] ∧ SeqLT K H a (vl o) ∧ IsOrd o ∧ Tabs H T ∧ ∀ H', Go T H H' → Q (.bl true) H'
theorem sorted_is {o : List Nat} (h : IsOrd o) {ns : List Int} (hp : ns.Perm (o.map fun k : Nat => (k : Int))) (hs : ns.Pairwise (· ≤ ·)) : ns.map V.int = rgV 1 ((o.length : Int) + 1) := by
  have e : ns = (List.range' 1 o.length).map fun k : Nat => (k : Int) := by
    refine List.Perm.eq_of_pairwise (le := (· ≤ ·)) (fun a b _ _ h1 h2 => Int.le_antisymm h1 h2) hs ?_ (hp.trans (h.perm.map _))
    rw [List.pairwise_map]
    exact (List.pairwise_lt_range' (s := 1) (n := o.length) (step := 1)).imp fun h => by omega
  rw [e]
  unfold rgV
  have e2 : ((o.length : Int) + 1 - 1).toNat = o.length := by omega
  rw [e2, List.range'_eq_map_range, List.map_map, List.map_map]
  apply List.map_congr_left
  intro k _
  show V.int (((1 + k : Nat)) : Int) = V.int (1 + (k : Int))
  congr 1
theorem ok_is_order {f fI c : Addr} {fd fdI : FuncData} {tN : Tok} (F : Fun K "is_order" "is_order" s_is_order f fd) (hc : fd.code = .ref c) {t1 : Addr} (hT1 : T t1) (TB : GxR.TabB base mg c t1) (FI : Fun K "is_integer" "is_integer" s_is_integer fI fdI) (gI : mg "is_integer" = some (.ref fI)) (B : Bl mg) (mN : mg "MOST_THINGS" = some (.int 9 tN)) :
    FnOk P w K mg base CX0 2 f fd ["value"] (spIsOrder K T) := by
  obtain ⟨oc, od, kV, doc, pm, an, cdv, ct, osl, rfl, lk, hcd⟩ := F.ex
  have hc' : cdv = .ref c := hc
  subst hc'
  refine fn_of lk hcd sc_is_order (fun vs H Q E h => ?_) (fun A outer s H vs Q E hr h => ?_)
  · obtain ⟨a, o, rfl, _⟩ := h
    rfl
  · obtain ⟨a, o, rfl, hs, ho, ht, q⟩ := h
    refine ⟨_, pss_cons (ps_if (PW.pt (pw_or (pt_not (pt_val (pe_callB call_isiT (by rfl) B.isinstance (by decide +kernel) (pa_cons (pv 0) (pa_cons (pe_tup (pa_cons (pe_bltn (v := .ty "list") (by rfl) B.list (by decide +kernel) rfl) (pa_cons (pe_bltn (v := .ty "tuple") (by rfl) B.tuple (by decide +kernel) rfl) pa_nil))) pa_nil)))))
          (pw_or1 (pt_not (pt_chain op_le op_le pe_int (pe_callB call_len (by rfl) B.len PySem.boot_len (pa_cons (pv 0) pa_nil)) (pe_glob (v := .int 9) (by rfl) mN ⟨_, rfl⟩))))))
        (pss_one (ps_ret pe_bl)) pss_nil)
      (pss_cons (ps_if (pt_not (pt_val (pe_allD hr (by rfl) B.all (by decide +kernel) TB rfl (gens_of rfl rfl (by decide +kernel) (by rfl) (by rfl)) (pv 0) (elt_isint FI B gI hr rfl (by rfl) (by rfl)) (fun _ => rfl)))) (pss_one (ps_ret pe_bl)) pss_nil)
      (pss_one (ps_ret (pe_cmpR (op_eqD hr.units) (pe_callB cr_sortLT (by rfl) B.sorted (by decide +kernel) (pa_cons (pv 0) pa_nil)) (pe_listRg rfl (by rfl) B.list (prg_2 (by rfl) B.range pe_int (pe_op op_add (pe_callB call_len (by rfl) B.len PySem.boot_len (pa_cons (pv 0) pa_nil)) pe_int))) (nomark _))))), ?_⟩
    -- isinstance(value, (list, tuple))
    refine ⟨.ref a, rfl, Nat.le_of_ble_eq_true rfl, fun p hp => ?_⟩
    have g1 := Go.new (o := .tup [V.ty "list", V.ty "tuple"]) ht hp
    obtain ⟨t1, ty1, k1⟩ := ty_seq (g1.lt ht hs)
    refine ⟨.ref a, p, _, t1, _, true, rfl, upd_same, .cons (.ty _) (.cons (.ty _) .nil), ty1, k1, true, rfl, ?_⟩
    refine iteF ?_
    have l1 := lenV_seq (g1.lt ht hs)
    rw [vl_len] at l1
    have b1 := ho.lo
    have b9 := ho.hi
    refine ⟨.ref a, rfl, .ref a, o.length, rfl, l1, 1, (o.length : Int), rfl, rfl, true, congrArg V.bl (decide_eq_true (by omega)), ?_⟩
    refine iteT ⟨(o.length : Int), 9, rfl, rfl, true, congrArg V.bl (decide_eq_true (by omega)), iteF ?_⟩
    -- all(is_integer(thing) for thing in value)
    refine ⟨.ref a, rfl, a, vl o, rfl, g1.lt ht hs, fun v hv => ?_, g1.1 _ hT1, fun H2 hT => ⟨true, ?_, iteF ?_⟩⟩
    · obtain ⟨i, hi, rfl⟩ := List.mem_map.mp hv
      exact ⟨i, rfl⟩
    · rw [List.all_eq_true.mpr (fun _ _ => rfl)]
    have g2 := g1.trans (Go.tabbed hT1 g1.1 hT)
    -- sorted(value) == list(range(1, len(value) + 1))
    refine ⟨.ref a, rfl, a, _, rfl, g2.lt ht hs, by rw [List.length_map]; omega, fun ns' p2 hp1 hp2 hn2 => ?_⟩
    have g3 := g2.trans (Go.new (o := .lst (ns'.map V.int)) g2.1 hn2)
    have l3 := lenV_seq (g3.lt ht hs)
    rw [vl_len] at l3
    refine ⟨.ref a, rfl, .ref a, o.length, rfl, l3, (o.length : Int), 1, rfl, rfl, 1, (o.length : Int) + 1, rfl, rfl, RgOk.of_le (by omega) (by omega) (by omega) (by omega), fun p4 hn4 => ?_⟩
    have nt : PySem.W.Frag := K
    have e := sorted_is ho hp1 hp2
    have n42 : p2 ≠ p4 := ne_of_none upd_same hn4
    have dS : (PyData.list ((List.range' 1 o.length).map fun k : Nat => PyData.int (k : Int))) = .list (dl (List.range' 1 o.length)) := rfl
    have rg := rg_vl o.length
    have nc := (nice_ord (o := List.range' 1 o.length) (fun k hk => by obtain ⟨i, hi, e⟩ := List.mem_range'.mp hk; omega) (by rw [List.length_range']; omega)).1
    refine ⟨.list (dl (List.range' 1 o.length)), .list (dl (List.range' 1 o.length)), .lst (xs := vl (List.range' 1 o.length)) (.inl (.inl ?_)) (dp_vl _), .lst (xs := vl (List.range' 1 o.length)) (.inl (.inl ?_)) (dp_vl _), nc.shaped (by decide), nc.shaped (by decide), ?_⟩
    · rw [upd_ne n42, upd_same, ← rg, ← e]
    · rw [upd_same, rg]
    · rw [nc.refl]
      exact q _ (g3.trans (Go.new g3.1 hn4))
end
end Lb

set_option Elab.async false
set_option linter.all false
set_option maxRecDepth 100000
set_option maxHeartbeats 2000000
namespace Lb
open PySem PySem.Spec PyProof.Rows L2

def und (o : List Nat) : List Nat := (List.range' 1 o.length).map fun k => o.idxOf k + 1
def trn (o : List Nat) : List Nat := o.reverse.map fun k => o.length + 1 - k
def beh (a b : List Nat) : List Nat := b.map fun p => a.getD (p - 1) 0
def exch (o : List Nat) (i j : Nat) : List Nat := (o.set i (o.getD j 0)).set j (o.getD i 0)
theorem idx_cast (k : Nat) : ∀ o : List Nat, (o.map fun k : Nat => (k : Int)).idxOf (k : Int) = o.idxOf k
  | [] => rfl
  | x :: r => by
    rw [List.map_cons, List.idxOf_cons, List.idxOf_cons, idx_cast k r]
    by_cases e : x = k
    · subst e
      simp
    · have e2 : ¬ ((x : Int) = (k : Int)) := fun z => e (Int.ofNat.inj z)
      rw [beq_eq_false_iff_ne.mpr e2, beq_eq_false_iff_ne.mpr e]
theorem IsOrd.mem {o : List Nat} (h : IsOrd o) {k : Nat} (h1 : 1 ≤ k) (h2 : k ≤ o.length) : k ∈ o := (h.perm.mem_iff (a := k)).mpr (List.mem_range'.mpr ⟨k - 1, by omega, by omega⟩)
theorem vl_snoc (l : List Nat) (k : Nat) : vl l ++ [V.int (k : Int)] = vl (l ++ [k]) := by
  unfold vl
  rw [List.map_append, List.map_append]
  rfl
theorem take_snoc {α : Type} {l : List α} {i : Nat} {x : α} (h : l[i]? = some x) : l.take (i + 1) = l.take i ++ [x] := by
  rw [List.take_add_one, h]
  rfl
theorem small9 {n : Nat} (h : n ≤ 100) : n < sizeLine := small1000 (by omega)

theorem ix_in {n j : Nat} (hj : j < n) : ixN n (j : Int) = some j := by
  unfold ixN
  first
    | (rw [if_pos ⟨by omega, by omega⟩, Int.toNat_natCast]; done)
    | (rw [if_pos (by omega), Int.toNat_natCast]; done)
    | (simp; omega)
abbrev s_is_within_bounds : Stmt := topS 13
abbrev s_check_order : Stmt := topS 15
theorem sc_is_integer : FnScope ["value"] ["value"] (defScope s_is_integer) := ⟨rfl, rfl, rfl, by decide +kernel, rfl, by decide +kernel, by decide +kernel⟩
theorem sc_is_within_bounds : FnScope ["value", "low", "high"] ["value", "low", "high"] (defScope s_is_within_bounds) := ⟨rfl, rfl, rfl, by decide +kernel, rfl, by decide +kernel, by decide +kernel⟩
theorem sc_check_order : FnScope ["order"] ["order"] (defScope s_check_order) := ⟨rfl, rfl, rfl, by decide +kernel, rfl, by decide +kernel, by decide +kernel⟩
section
variable {P : Program} {w : World} {K : PySem.W.Frag} {mg : Str → Option Value} {base : Heap} {T : Addr → Prop}

/-- a def that stands under its name, and how its arguments bind -/
structure Df (K : PySem.W.Frag) (mg : Str → Option Value) (x : Str) (st : Stmt) (ps : List Str) (f : Addr) (fd : FuncData) : Prop where
  fn : Fun K x x st f fd
  at_ : mg x = some (.ref f)
  bind : Binds K fd ps []

def spIsInt : Sp := fun vs H Q _ => ∃ i, vs = [.int i] ∧ Q (.bl true) H
theorem ok_is_integer {f : Addr} {fd : FuncData} (F : Fun K "is_integer" "is_integer" s_is_integer f fd) (B : Bl mg) : FnOk P w K mg base CX0 1 f fd ["value"] spIsInt := by
  refine F.ok sc_is_integer (fun vs H Q E h => ?_) (fun cdv A outer s H vs Q E hr h => ?_)
  · obtain ⟨i, rfl, _⟩ := h
    rfl
  · obtain ⟨i, rfl, q⟩ := h
    refine ⟨_, pss_one (ps_ret (pe_and (pe_callB call_isi (by rfl) B.isinstance (by decide +kernel) (pa_cons (pv 0) (pa_cons (pe_bltn (v := .ty "int") (by rfl) B.int (by decide +kernel) rfl) pa_nil)))
      (pe_one (pe_not (pe_callB call_isi (by rfl) B.isinstance (by decide +kernel) (pa_cons (pv 0) (pa_cons (pe_bltn (v := .ty "bool") (by rfl) B.bool (by decide +kernel) rfl) pa_nil))))))), ?_⟩
    refine ⟨.int i, rfl, .int i, .ty "int", _, _, true, rfl, .ty _, .base (.int i), kit_ty (by decide +kernel), true, rfl, ?_⟩
    refine iteT ⟨.int i, rfl, .int i, .ty "bool", _, _, false, rfl, .ty _, .base (.int i), kit_ty (by decide +kernel), false, rfl, q⟩

def spWithin : Sp := fun vs H Q _ => ∃ i lo hi : Int, vs = [.int i, .int lo, .int hi] ∧ lo ≤ i ∧ i ≤ hi ∧ Q (.bl true) H
theorem ok_is_within_bounds {f fI : Addr} {fd fdI : FuncData} (F : Fun K "is_within_bounds" "is_within_bounds" s_is_within_bounds f fd) (DI : Df K mg "is_integer" s_is_integer ["value"] fI fdI) (B : Bl mg) : FnOk P w K mg base CX0 2 f fd ["value", "low", "high"] spWithin := by
  have GI : FnOk P w K mg base CX0 1 fI fdI ["value"] spIsInt := ok_is_integer DI.fn B
  refine F.ok sc_is_within_bounds (fun vs H Q E h => ?_) (fun cdv A outer s H vs Q E hr h => ?_)
  · obtain ⟨i, lo, hi, rfl, _⟩ := h
    rfl
  · obtain ⟨i, lo, hi, rfl, h1, h2, q⟩ := h
    refine ⟨_, pss_one (ps_ret (pe_and (pe_call GI hr (by rfl) DI.at_ DI.fn.kp DI.bind .nil pass0 (pa_cons (pv 0) pa_nil)) (pe_one (pe_chain op_le op_le (pv 1) (pv 0) (pv 2))))), ?_⟩
    refine ⟨.int i, rfl, i, rfl, true, rfl, iteT ⟨.int lo, rfl, .int i, rfl, lo, i, rfl, rfl, true, congrArg V.bl (decide_eq_true h1), iteT ⟨.int hi, rfl, i, hi, rfl, rfl, ?_⟩⟩⟩
    show Q (V.bl (decide (i ≤ hi))) H
    rw [decide_eq_true h2]
    exact q

def spChk (K : PySem.W.Frag) (T : Addr → Prop) : Sp := fun vs H Q _ => ∃ (a : Addr) (o : List Nat), vs = [.ref a] ∧ SeqLT K H a (vl o) ∧ IsOrd o ∧ Tabs H T ∧ ∀ H', Go T H H' → Q .non H'
/-- the facts of is_order's def -/
structure Io (K : PySem.W.Frag) (mg : Str → Option Value) (base : Heap) (T : Addr → Prop) (c f fI : Addr) (fd fdI : FuncData) : Prop where
  f : Df K mg "is_order" s_is_order ["value"] f fd
  code : fd.code = .ref c
  TB : ∃ t, T t ∧ GxR.TabB base mg c t
  I : Df K mg "is_integer" s_is_integer ["value"] fI fdI
  N : ∃ t, mg "MOST_THINGS" = some (.int 9 t)
  B : Bl mg
variable {c fO fI : Addr} {fdO fdI : FuncData}
theorem Io.ok (O : Io K mg base T c fO fI fdO fdI) : FnOk P w K mg base CX0 2 fO fdO ["value"] (spIsOrder K T) := by
  obtain ⟨t, hN⟩ := O.N
  obtain ⟨t1, hT1, tb⟩ := O.TB
  exact ok_is_order O.f.fn O.code hT1 tb O.I.fn O.I.at_ O.B hN
theorem ok_check_order {f : Addr} {fd : FuncData} (F : Fun K "check_order" "check_order" s_check_order f fd) (O : Io K mg base T c fO fI fdO fdI) : FnOk P w K mg base CX0 3 f fd ["order"] (spChk K T) := by
  have G : FnOk P w K mg base CX0 2 fO fdO ["value"] (spIsOrder K T) := O.ok
  refine F.ok sc_check_order (fun vs H Q E h => ?_) (fun cdv A outer s H vs Q E hr h => ?_)
  · obtain ⟨a, o, rfl, _⟩ := h
    rfl
  · obtain ⟨a, o, rfl, hs, ho, ht, q⟩ := h
    refine ⟨_, pss_one (ps_if (pt_not (pt_val (pe_call G hr (by rfl) O.f.at_ O.f.fn.kp O.f.bind .nil pass0 (pa_cons (pv 0) pa_nil)))) (pss_one ps_never) pss_nil), ?_⟩
    exact ⟨.ref a, rfl, a, o, rfl, hs, ho, ht, fun H' g => ⟨true, rfl, iteF (q H' g)⟩⟩

theorem getD_of {o : List Nat} {i : Nat} (h : i < o.length) : o[i]? = some (o.getD i 0) := by
  rw [List.getElem?_eq_getElem h, List.getD_eq_getElem?_getD, List.getElem?_eq_getElem h]
  rfl
theorem vl_set (o : List Nat) (i k : Nat) : (vl o).set i (V.int (k : Int)) = vl (o.set i k) := by
  unfold vl
  rw [List.map_set, List.map_set]
end
end Lb

set_option Elab.async false
set_option linter.all false
set_option maxRecDepth 100000
set_option maxHeartbeats 2000000
namespace Lb
open PySem PySem.Spec PyProof.Rows L2


/-! for x in seq, seq a list (false) or a tuple (true) -/
def SqB (K : PySem.W.Frag) : Bool → Hp → Addr → List V → Prop
  | false, H, a, xs => SqL K H a xs
  | true, H, a, xs => SqT K H a xs
def ItB (K : PySem.W.Frag) (b : Bool) (a : Addr) : It := if b = true then Itt K a else Itl K a
theorem OrdK.sqB {K : PySem.W.Frag} {b : Bool} {H : Hp} {a : Addr} {xs : List V} (h : OrdK b H a xs) : SqB K b H a xs := by
  cases b with
  | false => exact h.sqL
  | true => exact h.sqT
theorem Go.sqB {K : PySem.W.Frag} {b : Bool} {T : Addr → Prop} {a : Addr} {H H' : Hp} {xs : List V} (g : Go T H H') (t : Tabs H T) (h : SqB K b H a xs) : SqB K b H' a xs := by
  cases b with
  | false => exact g.seqL t h
  | true => exact g.seqT t h
def iSeq (K : PySem.W.Frag) (tl : TE) : TI := fun σ H R => tl σ H fun x H1 => ∃ (b : Bool) (a : Addr), x = .ref a ∧ (∃ xs, SqB K b H1 a xs) ∧ R (ItB K b a) H1
theorem pi_seq {X : Cx} {tg l : Expr} {tl : TE} (hl : PE X l tl) : PI X tg l (iSeq X.K tl) := by
  refine ⟨fun pins s σ H R I h => thn (hl.run pins s σ H _ I h) fun v s1 ⟨x, H1, I1, r1, q1⟩ => ?_⟩
  obtain ⟨b, a, rfl, ⟨xs, hq⟩, q⟩ := q1
  cases r1
  have at_ : ∀ c ∈ [s1.heap.objs.size], FpOk X pins H1 c := fun c hc => by
    cases List.mem_singleton.mp hc
    exact I1.fpOk (Nat.le_refl _) (I1.hok.fresh (Nat.le_refl _))
  cases b with
  | false =>
    obtain ⟨its, rv, p, hz⟩ := I1.list hq
    exact wpAny_pyIter_list p.isList ⟨s1.heap.objs.size, [s1.heap.objs.size], _, _, H1, rfl, I1.kept (t' := s1.toks) fun b o e => Heap.get?_push_of_some _ e, turn_list a _, ⟨_, Heap.get?_push_size _ rfl, rfl, rfl⟩, at_, q⟩
  | true =>
    obtain ⟨its, rv, p, hz⟩ := I1.tuple hq
    exact wpAny_pyIter_tuple (show s1.heap.IsTuple a its.toArray from p) ⟨s1.heap.objs.size, [s1.heap.objs.size], _, _, H1, rfl, I1.kept (t' := s1.toks) fun b o e => Heap.get?_push_of_some _ e, turn_tuple a _, ⟨_, Heap.get?_push_size _ rfl, rfl, rfl⟩, at_, q⟩
theorem lc_seq {K : PySem.W.Frag} {b : Bool} {a : Addr} {xs : List V} {g : TG} {tt : TT} {te : TE} {vs : List Nat} {σ : L2.St} {H1 : Hp} {D : Addr} {Qd : Hp → Prop} (Pv : Nat → Hp → Prop) (h0 : Pv 0 (upd H1 D (.lst []))) (hl : ∀ i H, i ≤ xs.length → Pv i H → SqB K b H a xs)
    (hs : ∀ i x H, xs[i]? = some x → Pv i H → g x (wipe σ vs) H fun σ2 H2 => wipe σ2 vs = wipe σ vs ∧ tt σ2 H2 fun b H3 =>
      if b = true then te σ2 H3 fun y H4 => ∃ acc, H4 D = some (.lst acc) ∧ acc.length < sizeLine ∧ Pv (i + 1) (upd H4 D (.lst (acc ++ [y]))) else Pv (i + 1) H3) (hd : ∀ H, Pv xs.length H → Qd H) :
    ∃ W : Nat → Nat → Hp → Prop, (∃ m, W 0 m (upd H1 D (.lst []))) ∧ ∀ i m H, W i m H →
      ((ItB K b a).stop i H ∧ Qd H) ∨ ((ItB K b a).go i H ∧ ∃ Nx : Hp → Prop, (∀ H', Nx H' → ∃ m', m' < m ∧ W (i + 1) m' H') ∧ ∀ x H', (ItB K b a).yld i H x H' → g x (wipe σ vs) H' fun σ2 H2 => wipe σ2 vs = wipe σ vs ∧ tt σ2 H2 fun b H3 =>
        if b = true then te σ2 H3 fun y H4 => ∃ acc, H4 D = some (.lst acc) ∧ acc.length < sizeLine ∧ Nx (upd H4 D (.lst (acc ++ [y]))) else Nx H3) := by
  cases b with
  | false => exact lc_list Pv h0 hl hs hd
  | true => exact lc_tup Pv h0 hl hs hd
/-- len, where the written part is told -/
def rLen (K : PySem.W.Frag) : List V → Hp → VK → Prop := fun xs H Q => ∃ x n, xs = [x] ∧ LenV K x H n ∧ Q (V.int (n : Nat)) H
theorem lenK {X : Cx} : CallR X (.builtin "len") (rLen X.K) := call_len
/-- what has been made so far stands at D -/
def Made (T : Addr → Prop) (H1 : Hp) (D : Addr) (l : List Nat) (H : Hp) : Prop := Tabs H T ∧ (∀ b u, ¬ T b → b ≠ D → H1 b = some u → H b = some u) ∧ H D = some (.lst (vl l))
theorem Made.start {T : Addr → Prop} {D : Addr} {H1 : Hp} (ht : Tabs H1 T) (hD : H1 D = none) : Made T H1 D [] (upd H1 D (.lst [])) :=
  ⟨(Go.new (o := .lst []) ht hD).1, fun b u n1 n2 e => by rw [upd_ne n2]; exact e, upd_same⟩
theorem Made.go {T : Addr → Prop} {D : Addr} {H1 H : Hp} {l : List Nat} (m : Made T H1 D l H) (hD : H1 D = none) : Go T H1 H := ⟨m.1, fun b u n e => m.2.1 b u n (fun z => by rw [z, hD] at e; cases e) e⟩
theorem Made.more {T : Addr → Prop} {D : Addr} {H1 H H' : Hp} {l : List Nat} {k : Nat} (m : Made T H1 D l H) (hD : H1 D = none) (ht : Tabs H1 T) (g : Go T H H') :
    H' D = some (.lst (vl l)) ∧ Made T H1 D (l ++ [k]) (upd H' D (.lst (vl l ++ [V.int (k : Int)]))) := by
  have dT : ¬ T D := tab_ne ht hD
  refine ⟨g.2 D _ dT m.2.2, ⟨?_, fun b u n1 n2 e => ?_, ?_⟩⟩
  · exact g.1.put dT
  · rw [upd_ne n2]
    exact g.2 b u n1 (m.2.1 b u n1 n2 e)
  · rw [upd_same, vl_snoc]

section
variable {P : Program} {w : World} {K : PySem.W.Frag} {mg : Str → Option Value} {base : Heap} {T : Addr → Prop} {c fO fI : Addr} {fdO fdI : FuncData}

/-- the outcome of a def that makes a new tuple -/
def Out (T : Addr → Prop) (H : Hp) (Q : VK) (o : List Nat) : Prop := ∀ H' p, Go T H H' → H p = none → OrdK true H' p (vl o) → Q (.ref p) H'
def Cd (K : PySem.W.Frag) (mg : Str → Option Value) (fC : Addr) (fdC : FuncData) : Prop := Df K mg "check_order" s_check_order ["order"] fC fdC
theorem vl_rev (o : List Nat) : (vl o).reverse = vl o.reverse := by
  unfold vl
  rw [List.map_reverse, List.map_reverse]
end
end Lb

set_option Elab.async false
set_option linter.all false
set_option maxRecDepth 100000
set_option maxHeartbeats 2000000
namespace Lb
open PySem PySem.Spec PyProof.Rows L2

/-! ### wrong pairs -/
/-- the wrong pairs of the place i with the first k places behind it -/
def row (o : List Nat) (i k : Nat) : List (Nat × Nat) := ((List.range k).filter fun b => decide (o.getD i 0 > o.getD (i + 1 + b) 0)).map fun b => (i, i + 1 + b)
def wpTo (o : List Nat) (i j : Nat) : List (Nat × Nat) := ((List.range i).flatMap fun a => row o a (o.length - (a + 1))) ++ row o i j
def wps (o : List Nat) : List (Nat × Nat) := (List.range o.length).flatMap fun a => row o a (o.length - (a + 1))
def lev (o : List Nat) : Nat := (wps o).length
theorem row_zero (o : List Nat) (i : Nat) : row o i 0 = [] := rfl
theorem row_more (o : List Nat) (i k : Nat) : row o i (k + 1) = row o i k ++ (if o.getD i 0 > o.getD (i + 1 + k) 0 then [(i, i + 1 + k)] else []) := by
  unfold row
  rw [List.range_succ, List.filter_append, List.map_append]
  congr 1
  by_cases h : o.getD i 0 > o.getD (i + 1 + k) 0
  · rw [if_pos h, List.filter_cons_of_pos (by exact decide_eq_true h)]
    rfl
  · rw [if_neg h, List.filter_cons_of_neg (by rw [decide_eq_false h]; exact Bool.false_ne_true)]
    rfl
theorem wpTo_more (o : List Nat) (i k : Nat) : wpTo o i (k + 1) = wpTo o i k ++ (if o.getD i 0 > o.getD (i + 1 + k) 0 then [(i, i + 1 + k)] else []) := by
  unfold wpTo
  rw [row_more, List.append_assoc]
theorem wpTo_next (o : List Nat) (i : Nat) : wpTo o (i + 1) 0 = wpTo o i (o.length - (i + 1)) := by
  unfold wpTo
  rw [List.range_succ, List.flatMap_append, row_zero, List.append_nil, List.flatMap_cons, List.flatMap_nil, List.append_nil]
theorem wpTo_end (o : List Nat) : wpTo o o.length 0 = wps o := by
  unfold wpTo wps
  rw [row_zero, List.append_nil]
theorem row_le (o : List Nat) (i k : Nat) : (row o i k).length ≤ k := by
  unfold row
  rw [List.length_map]
  exact Nat.le_trans (List.length_filter_le _ _) (by rw [List.length_range]; exact Nat.le_refl _)
theorem flat_le {f : Nat → List (Nat × Nat)} {c : Nat} (h : ∀ a, (f a).length ≤ c) : ∀ l : List Nat, (l.flatMap f).length ≤ c * l.length
  | [] => Nat.le_refl _
  | a :: r => by
    rw [List.flatMap_cons, List.length_append, List.length_cons, Nat.mul_add]
    have := h a
    have := flat_le h r
    omega
theorem wpTo_le {o : List Nat} {i j : Nat} (h : o.length ≤ 9) (hi : i ≤ 9) (hj : j ≤ 9) : (wpTo o i j).length ≤ 90 := by
  unfold wpTo
  rw [List.length_append]
  have h1 := flat_le (f := fun a => row o a (o.length - (a + 1))) (c := 9) (fun a => Nat.le_trans (row_le _ _ _) (by omega)) (List.range i)
  rw [List.length_range] at h1
  have h2 := row_le o i j
  omega

def PairsAt (H : Hp) (ts : List Addr) (ps : List (Nat × Nat)) : Prop := Paired (fun t (p : Nat × Nat) => H t = some (.tup [V.int (p.1 : Int), V.int (p.2 : Int)])) ts ps
theorem PairsAt.keep {H H' : Hp} {ts : List Addr} {ps : List (Nat × Nat)} (h : PairsAt H ts ps) (k : ∀ b xs, H b = some (.tup xs) → H' b = some (.tup xs)) : PairsAt H' ts ps := Paired.mapP h fun _ _ e => k _ _ e
theorem Paired.snoc {α β : Type} {R : α → β → Prop} {x : α} {y : β} : ∀ {l : List α} {m : List β}, Paired R l m → R x y → Paired R (l ++ [x]) (m ++ [y])
  | _, _, .nil, r => .cons r .nil
  | _, _, .cons q t, r => .cons q (Paired.snoc t r)

/-- the pairs made so far stand at D -/
structure PMade (T : Addr → Prop) (H1 : Hp) (D : Addr) (ps : List (Nat × Nat)) (H : Hp) : Prop where
  tab : Tabs H T
  old : ∀ b u, ¬ T b → H1 b = some u → H b = some u
  new : ∃ ts : List Addr, H D = some (.lst (ts.map V.ref)) ∧ PairsAt H ts ps
section
variable {P : Program} {w : World} {K : PySem.W.Frag} {mg : Str → Option Value} {base : Heap} {T : Addr → Prop} {c fO fI : Addr} {fdO fdI : FuncData}

theorem ix_at {H : Hp} {a : Addr} {o : List Nat} {i : Nat} {k : Int} {Q : VK} (h : SeqLT K H a (vl o)) (hi : i < o.length) (hk : k = (i : Int)) (q : Q (.int ((o.getD i 0 : Nat) : Int)) H) : rIx K (.ref a) (.int k) H Q := by
  subst hk
  have e := atI_nat (vl_get (getD_of hi))
  rcases h with h | h
  · exact .inl ⟨a, _, _, _, rfl, rfl, h, e, q⟩
  · exact .inr (.inl ⟨a, _, _, _, rfl, rfl, h, e, q⟩)
end
end Lb

set_option Elab.async false
set_option linter.all false
set_option maxRecDepth 100000
set_option maxHeartbeats 2000000
namespace Lb
open PySem PySem.Spec PyProof.Rows L2 GxR

/-! ### all(.. for x in a list or a tuple), names of the def within -/
section
variable {X : Cx} {pins : List (Addr × Obj)} {σ : L2.St} {H : Hp} {s : Shared}
/-- the generator's element, told for any frame of it behind the state s1 in which the generator was made; what stood there stands, but the table at P -/
def EltC (X : Cx) (P : Addr) (s1 : Shared) (scope : Scope) (x : Str) (elt : Expr) (ok : V → Prop) (pb : V → Bool) : Prop :=
  ∀ (cenv : Env) (A' : Around) (E' : Value → Shared → Prop) (v : V) (u : Value) (t : Shared) (m : Str → Option Value), RelV v u → ok v → A'.handled = none → A'.depth ≤ X.A.depth + 1 → A'.units ≤ X.A.units + 8 →
    cenv.scope = scope → cenv.globals = mainGlobals → cenv.builtins = builtinsNs → cenv.cells = cloFrom X.env.cells scope.names [] →
    (∀ b o, b ≠ P → s1.heap.get? b = some o → t.heap.get? b = some o) → t.heap.Ns cenv.locals m → m x = some u →
    wpAny (model X.prog X.w) A' (eval elt cenv) (fun y t' => y = .bool (pb v) ∧ Keeps t t') E' t
theorem gen_clo {c P : Addr} {elt iter : Expr} {x : Str} {px gpos : Pos} {scope : Scope} {te : TE} {k : Nat} {Q' : Value → Shared → Prop} {R : List V → (V → Bool) → Hp → Prop}
    (room : Room k X.A) (TB : GxR.TabB X.base X.mg c P) (own : X.env.code = .ref c) (S : GenS X.env scope x) (src : PE X iter te) (nofold : ∀ v, genFold iter X.env v = pure v) (I : Inv X pins σ H s)
    (h : te σ H fun v H1 => ∃ (a : Addr) (xs : List V) (ok : V → Prop) (pb : V → Bool), v = .ref a ∧ SeqLT X.K H1 a xs ∧ (∀ v ∈ xs, ok v) ∧ TabG H1 P ∧ (∀ ps z, Inv X ps σ H1 z → EltC X P z scope x elt ok pb) ∧ R xs pb H1)
    (hQ : ∀ xs pb H1 g s5, R xs pb H1 → ReadyL X pins σ H1 P xs pb g s5 → Q' (.ref g) s5) :
    wpAny (model X.prog X.w) X.A (eval (.GeneratorExp elt [⟨.Name x px, iter, [], 0⟩] scope gpos) X.env) Q' X.xe s := by
  have deep : X.A.depth < recursionLimit := by have := room.dp; omega
  refine wpAny_GeneratorExp_walksQD room.hd S.co (closure_ok S.free) S.cell S.dot S.loc S.kind deep (thn (src.run pins s σ H _ I h) fun u0 s1 ⟨v0, H1, I1, r0, a, xs, ok, pb, e0, hq, oks, ⟨tab, tP, tr⟩, hel, hR⟩ => ?_) nofold
  subst e0
  cases (show u0 = Value.ref a from r0)
  refine iter_seq I1 hq fun o its At F => ?_
  have gP : s1.heap.get? P = some { cls := .none, data := .fields tab } := I1.hok P _ tP
  have lowP := Heap.lt_size gP
  have grow : ∀ b u, s1.heap.get? b = some u → (s1.heap.push o).get? b = some u := fun b u e => Heap.get?_push_of_some _ e
  have nl := I1.nolimit.push o
  have stat : cStatics < s1.heap.objs.size ∧ cStatics ≠ P := by
    obtain ⟨_, ns, _⟩ := I1.nolimit
    refine ⟨ns.lt, fun e => ?_⟩
    obtain ⟨ob, _, _, g, d, _⟩ := ns
    rw [e, gP] at g
    cases g
    cases d
  refine ⟨nl, code_in_table own (TB.code.keeps fun b u e => grow b u (I1.bk b u e)) (grow P _ gP) tr fun code h3 tk more ext big gP3 tr3 => ?_⟩
  have szo : (s1.heap.push o).objs.size = s1.heap.objs.size + 1 := Heap.size_push ..
  have room3 : s1.heap.objs.size < h3.objs.size := by
    have b2 := big
    rw [szo] at b2
    exact b2
  have stays : ∀ b u, b ≠ P → s1.heap.get? b = some u → h3.get? b = some u := fun b u nb e => ext b u nb (grow b u e)
  obtain ⟨bm, ob, b1, b2, b3, b4, b5, b6, b7, b8⟩ := TB.bm
  refine wpAny_builtinsFor (m := X.mg) (by rw [I1.ok.glob]; exact Heap.Ns.extBut ((I1.mod.glob.keeps I1.bk).push o) ext TB.gP) b1 b2 (stays _ _ b4 (I1.bk _ _ b5)) b6 b7 b8 ?_
  have foot : ∀ b ∈ [s1.heap.objs.size, a], b ≠ P ∧ b < h3.objs.size := fun b hb => by
    simp only [List.mem_cons, List.not_mem_nil, or_false] at hb
    rcases hb with e | e <;> rw [e]
    · exact ⟨(Nat.ne_of_lt lowP).symm, room3⟩
    · exact ⟨(F.cls P _ gP rfl).symm, Nat.lt_trans F.low room3⟩
  refine ⟨_, _, [s1.heap.objs.size], xs.length, fun i y => its[i]? = some y, At, fun _ => true, fun i y => ∃ d, xs[i]? = some d ∧ y = .bool (pb d), rfl, F.walk, ?_, fun b hb => (foot b hb).2, nl.extBut ext stat.2, fun e => Nat.ne_of_lt stat.1 (List.mem_singleton.mp e), fun later kept => ⟨?_, ?_⟩, ?_⟩
  · exact (F.walk X.A room.hd).frame _ _ _ F.at0 fun b hb u e => ext b u (foot b hb).1 e
  · intro B E' i y t mt _ _ _ _ _ _ _
    simp only [List.forIn_nil]
    exact wpAny_pure ⟨rfl, keeps_refl _⟩
  · intro B E' i y t mt hB dB uB hy _ ln lm lk
    have lt : i < xs.length := by
      rw [F.rel.length]
      exact (List.getElem?_eq_some_iff.mp hy).1
    have at_ := List.getElem?_eq_getElem lt
    obtain ⟨y', hy', ry⟩ := F.rel.get at_
    cases hy.symm.trans hy'
    refine wpAny_mono (hel pins s1 I1 _ B E' xs[i] y t mt ry (oks _ (List.getElem_mem lt)) hB dB uB rfl I1.ok.glob rfl rfl (fun b u nb eb => ?_) ln lm) (fun z t' r => ⟨⟨_, at_, r.1⟩, r.2⟩) fun _ _ e => e
    have e3 := stays b u nb eb
    exact lk b (List.mem_range.mpr (Heap.lt_size e3)) (fun z => Nat.ne_of_lt (Heap.lt_size eb) (List.mem_singleton.mp z)) u (kept b u e3)
  · intro g h5 tk5 gen bare gt sz5 keep5 W5 start
    simp only [GxR.passing_true, List.length_range] at W5
    refine hQ xs pb H1 g _ hR ⟨_, _, _, _, _, W5.in4_1, start, fun j y t Qj Ej hy hj => ?_, fun z mv => ?_⟩
    · obtain ⟨i, hi, d, hd, rfl⟩ := hy
      obtain ⟨_, ei⟩ := List.getElem?_eq_some_iff.mp hi
      rw [List.getElem_range] at ei
      subst ei
      rw [trL_some hd] at hj
      exact wpAny_truthy_bool hj
    · have apart : ∀ b u, s1.heap.get? b = some u → b ∉ h3.objs.size :: [s1.heap.objs.size] := fun b u e hb => by
        have lb : (b : Nat) < s1.heap.objs.size := Heap.lt_size e
        simp only [List.mem_cons, List.not_mem_nil, or_false] at hb
        rcases hb with e' | e' <;> rw [e'] at lb
        · exact Nat.lt_irrefl _ (Nat.lt_trans lb room3)
        · exact Nat.lt_irrefl _ lb
      have fin := inv_tab (more := more) (h' := z.heap) (g' := z.gens) (d' := z.drawn) (t' := z.toks) I1 tP (fun b u nb e => mv.heap b u (apart b u e) (keep5 b u (stays b u nb e))) (mv.heap P _ (apart P _ gP) (keep5 P _ gP3)) (AllBare.movedS (I1.bare.push bare) mv)
      rw [sh_eta s1 z mv.os] at fin
      exact ⟨upd H1 P (.tbl (tab ++ more)), ⟨⟨tab ++ more, upd_same, tr3⟩, fun b hb => upd_ne hb⟩, fin⟩
def tAllC (X : Cx) (P : Addr) (scope : Scope) (x : Str) (elt : Expr) (te : TE) : TE := fun σ H Q => te σ H fun v H1 => ∃ (a : Addr) (xs : List V) (ok : V → Prop) (pb : V → Bool), v = .ref a ∧ SeqLT X.K H1 a xs ∧ (∀ v ∈ xs, ok v) ∧ TabG H1 P ∧ (∀ ps z, Inv X ps σ H1 z → EltC X P z scope x elt ok pb) ∧ ∀ H2, Tabbed P H1 H2 → Q (.bl (xs.all pb)) H2
theorem pe_allC {c P : Addr} {elt iter : Expr} {x : Str} {px p pos gpos : Pos} {scope : Scope} {te : TE} {k : Nat}
    (hr : Room k X.A) (hg : Gl X "all") (hm : X.mg "all" = none) (hb : bootBuiltins "all" = some (.builtin "all")) (TB : GxR.TabB X.base X.mg c P) (hcode : X.env.code = .ref c) (S : GenS X.env scope x) (hi : PE X iter te)
    (hs : ∀ v, genFold iter X.env v = pure v)
    (he : starEach [.GeneratorExp elt [⟨.Name x px, iter, [], 0⟩] scope gpos] X.env = (false, eval (.GeneratorExp elt [⟨.Name x px, iter, [], 0⟩] scope gpos) X.env) :: starEach [] X.env := by rfl) :
    PE X (.Call (.Name "all" p) [.GeneratorExp elt [⟨.Name x px, iter, [], 0⟩] scope gpos] [] pos) (tAllC X P scope x elt te) := by
  refine ⟨fun pins s σ H Q I h => ?_⟩
  refine wpAny_Call_Name_kw (ld_blt I hg hm hb ?_)
  refine PyProof.Rows.callWith_builtin1 ?_ he (by rfl)
  rw [he]
  show wpAny _ _ (spliced ((false, eval (.GeneratorExp elt [⟨.Name x px, iter, [], 0⟩] scope gpos) X.env) :: backTo pos (starEach [] X.env))) _ _ s
  refine Calls.spliced_cons (gen_clo (R := fun xs pb H1 => ∀ H2, Tabbed P H1 H2 → Q (.bl (xs.all pb)) H2) hr TB hcode S hi hs I h fun xs pb H1 g s5 hR hG => ?_)
  obtain ⟨fp, wr, G, F, St, W, hst, htr, hI⟩ := hG
  refine Calls.spliced_nil ?_
  refine call_all_walkS (W.self 0 _ _ _ hst ⟨g, fp, wr, G, _, F, St, _, rfl, W, hst, htr, fun s' hmv => ?_⟩)
  obtain ⟨H2, hT, J⟩ := hI s' hmv
  refine ⟨.bl _, H2, J, rfl, ?_⟩
  rw [all_trL pb xs]
  exact hR H2 hT
/-- a name of the def around, a cell there, as the generator's element reads it -/
theorem free_read {P : Addr} {z t : Shared} {scope : Scope} {cenv : Env} {A' : Around} {E' : Value → Shared → Prop} {Q : Value → Shared → Prop} {ps : List (Addr × Obj)} {i : Nat} {y : Str} {v : V} {p : Pos} (I : Inv X ps σ H z) (hN : X.N[i]? = some y) (hv : σ[i]? = some (some v)) (hcl : X.env.scope.names.lookup y = some .cell)
    (tP : TabG H P) (hsc : cenv.scope = scope) (hk : scope.kind = .function) (hy : scope.names.lookup y = some .free) (hcs : cenv.cells = cloFrom X.env.cells scope.names []) (uq : (cloFrom X.env.cells scope.names []).lookup y = some ((X.env.cells.lookup y).getD 0)) (old : ∀ b o, b ≠ P → z.heap.get? b = some o → t.heap.get? b = some o)
    (h : ∀ u, RelV v u → Q u t) (hd : (y == ("__debug__" : Str)) = false := by decide) (hcd : (y == ("__classdict__" : Str)) = false := by decide) : wpAny (model X.prog X.w) A' (eval (.Name y p) cenv) Q E' t := by
  obtain ⟨m, _, look⟩ := I.loc
  obtain ⟨u, ru, lk⟩ := look i y v hN hv (.inr (.inl hcl))
  have hkd : X.env.kindOf y = some .cell := hcl
  rcases lk with ⟨k1, _⟩ | ⟨_, c, hc, ic⟩
  · rw [hkd] at k1
    cases k1
  · have ncP : c ≠ P := fun e => by
      have z2 := I.freeC y c hc
      obtain ⟨tab, e2, _⟩ := tP
      rw [e, e2] at z2
      cases z2
    have ic2 : t.heap.IsCell c (some u) := by
      obtain ⟨o, go, dd⟩ := ic
      exact ⟨o, old c o ncP go, dd⟩
    exact wpAny_Name (wpAny_loadName_free (by rw [hsc]; exact hk) (by show cenv.scope.names.lookup _ = _; rw [hsc]; exact hy) (by rw [hcs, uq, hc]; rfl) ic2 (h u ru) hcd) hd
end
end Lb

set_option Elab.async false
set_option linter.all false
set_option maxRecDepth 100000
set_option maxHeartbeats 4000000
namespace Lb
open PySem PySem.Spec PyProof.Rows L2

section
variable {P : Program} {w : World} {K : PySem.W.Frag} {mg : Str → Option Value} {base : Heap} {T : Addr → Prop}
/-- is_within_bounds of ints, at the library's level -/
theorem within_call {fI fW : Addr} {fdI fdW : FuncData} (FW : Fun K "is_within_bounds" "is_within_bounds" s_is_within_bounds fW fdW) (FI : Fun K "is_integer" "is_integer" s_is_integer fI fdI) (gI : mg "is_integer" = some (.ref fI)) (B : Bl mg) (M : L2.Mod K mg base) {A : Around} {R : Result → Shared → Prop} {s : Shared} {i lo hi : Int} {t t2 t3 : Tok}
    (hd : A.depth + 3 < recursionLimit) (hk : ∀ b o, base.get? b = some o → s.heap.get? b = some o) (h1 : lo ≤ i) (h2 : i ≤ hi) (h : ∀ s', PySem.Keeps s s' → R (.ok (.ret (.bool true))) s') : codeAny (model P w) A (.call (.ref fW) ⟨[.int i t, .int lo t2, .int hi t3], []⟩) R s := by
  obtain ⟨oc, od, kV, doc, pm, an, cdv, ct, osl, rfl, lk, hcd⟩ := FW.ex
  refine Att.call_fn (binds := [("value", .int i t), ("low", .int lo t2), ("high", .int hi t3)]) (M.kin.keeps hk) (M.nolimit.keeps hk) lk hcd (by omega) (BindsTo.of_eq (by first | rfl | with_unfolding_all rfl)) (by first | rfl | decide | with_unfolding_all rfl) (fun s₁ IC => ?_) rfl rfl rfl
  obtain ⟨h₁, tk₁, rfl⟩ := IC.toInCall.same
  have k1 : ∀ b o, s.heap.get? b = some o → h₁.get? b = some o := IC.toInCall.keep
  have hn := IC.toInCall.ns
  have kb : ∀ b o, base.get? b = some o → h₁.get? b = some o := fun b o e => k1 b o (hk b o e)
  refine wpAny_execs_cons (wpAny_Return_some ?_)
  refine BoolOp_and (wpAny_Call_Name_kw (Calls.Name_function_global rfl (by rfl) (Calls.loadGlobal_global (M.glob.keeps kb) gI ?_) (by decide)))
  refine PySem.W.callWith_K (h₀ := base) M.kin FI.kp ?_ (by rfl) (by rfl)
  refine Calls.spliced_cons (wpAny_Name (wpAny_loadName_local (v := .int i t) rfl (by rfl) hn (by rfl) (Calls.spliced_nil ⟨M.kin.keeps kb, ?_⟩)) (by decide))
  refine wpAny_call (isint_call FI B M (by show A.depth + 1 < recursionLimit; omega) kb fun s' hs => ?_)
  obtain ⟨h', tk, rfl, k⟩ := hs
  have hn' := hn.keeps k
  refine wpAny_truthy_bool ?_
  refine BoolOp_one (Compare_chain (wpAny_Name (wpAny_loadName_local (v := .int lo t2) rfl (by rfl) hn' (by rfl) (chain_link (wpAny_Name (wpAny_loadName_local (v := .int i t) rfl (by rfl) hn' (by rfl) (le_int ?_)) (by decide)))) (by decide)))
  rw [decide_eq_true h1]
  refine wpAny_truthy_bool (ite_tt (chain_last (wpAny_Name (wpAny_loadName_local (v := .int hi t3) rfl (by rfl) hn' (by rfl) (le_int ?_)) (by decide))))
  rw [decide_eq_true h2]
  exact h _ ⟨h', tk, rfl, fun b o e => k b o (k1 b o e)⟩
end
end Lb

set_option Elab.async false
set_option linter.all false
set_option maxRecDepth 100000
set_option maxHeartbeats 4000000
namespace Lb
open PySem PySem.Spec PyProof.Rows L2

abbrev s_is_list : Stmt := topS 12
abbrev s_awb : Stmt := topS 14
theorem sc_is_list : FnScope ["value"] ["value"] (defScope s_is_list) := ⟨rfl, rfl, rfl, by decide +kernel, rfl, by decide +kernel, by decide +kernel⟩
theorem sc_awb : FnScope ["value", "low", "high"] ["value", "low", "high"] (defScope s_awb) := ⟨rfl, rfl, rfl, by decide +kernel, rfl, by decide +kernel, by decide +kernel⟩
theorem gens_free {env : Env} {scope : Scope} {x : Str} (fs : List Str) (h1 : scope.kind = .function) (h2 : scope.isCoroutine = false) (h3 : ∀ y ∈ scope.names, y.2 ≠ .cell) (h4 : scope.names.lookup (".0" : Str) = some NameKind.local) (h5 : scope.names.lookup x = some .local)
    (h6 : ∀ y ∈ scope.names, y.2 = .free → y.1 ∈ fs) (h7 : ∀ f ∈ fs, ∃ c, env.cells.lookup f = some c) : GxR.GenS env scope x := ⟨h1, h2, h3, h4, h5, fun y hy e => h7 _ (h6 y hy e)⟩
section
variable {P : Program} {w : World} {K : PySem.W.Frag} {mg : Str → Option Value} {base : Heap} {T : Addr → Prop}
def spIsl (K : PySem.W.Frag) (T : Addr → Prop) : Sp := fun vs H Q _ => ∃ (a : Addr) (xs : List V), vs = [.ref a] ∧ SeqLT K H a xs ∧ Tabs H T ∧ ∀ H', Go T H H' → Q (.bl true) H'
theorem ok_is_list {f : Addr} {fd : FuncData} (F : Fun K "is_list" "is_list" s_is_list f fd) (B : Bl mg) : FnOk P w K mg base CX0 1 f fd ["value"] (spIsl K T) := by
  refine F.ok sc_is_list (fun vs H Q E h => ?_) (fun cdv A outer s H vs Q E hr h => ?_)
  · obtain ⟨a, xs, rfl, _⟩ := h
    rfl
  · obtain ⟨a, xs, rfl, hs, ht, q⟩ := h
    refine ⟨_, pss_one (ps_ret (pe_callB call_isiT (by rfl) B.isinstance (by decide +kernel) (pa_cons (pv 0) (pa_cons (pe_tup (pa_cons (pe_bltn (v := .ty "list") (by rfl) B.list (by decide +kernel) rfl) (pa_cons (pe_bltn (v := .ty "tuple") (by rfl) B.tuple (by decide +kernel) rfl) pa_nil))) pa_nil)))), ?_⟩
    refine ⟨.ref a, rfl, Nat.le_of_ble_eq_true rfl, fun p hp => ?_⟩
    have g1 := Go.new (o := .tup [V.ty "list", V.ty "tuple"]) ht hp
    obtain ⟨t1, ty1, k1⟩ := ty_seq (g1.lt ht hs)
    exact ⟨.ref a, p, _, t1, _, true, rfl, upd_same, .cons (.ty _) (.cons (.ty _) .nil), ty1, k1, q _ g1⟩

/-- the elements of are_within_bounds -/
theorem elt_within {X : Cx} {fI fW : Addr} {fdI fdW : FuncData} {scope : Scope} {p1 p2 p3 p4 p5 : Pos} {k : Nat} {ps : List (Addr × Obj)} {σ : L2.St} {H : Hp} {z : Shared} {P0 : Addr} {lo hi : Int}
    (FW : Fun X.K "is_within_bounds" "is_within_bounds" s_is_within_bounds fW fdW) (gW : X.mg "is_within_bounds" = some (.ref fW)) (FI : Fun X.K "is_integer" "is_integer" s_is_integer fI fdI) (gI : X.mg "is_integer" = some (.ref fI)) (B : Bl X.mg) (hr : Room k X.A)
    (I : L2.Inv X ps σ H z) (tP : GxR.TabG H P0) (n1 : X.N[1]? = some ("low" : Str)) (n2 : X.N[2]? = some ("high" : Str)) (v1 : σ[1]? = some (some (.int lo))) (v2 : σ[2]? = some (some (.int hi))) (c1 : X.env.scope.names.lookup ("low" : Str) = some .cell) (c2 : X.env.scope.names.lookup ("high" : Str) = some .cell)
    (hk : scope.kind = .function) (l0 : scope.names.lookup ("is_within_bounds" : Str) = some .globalImplicit) (l1 : scope.names.lookup ("number" : Str) = some .local) (f1 : scope.names.lookup ("low" : Str) = some .free) (f2 : scope.names.lookup ("high" : Str) = some .free)
    (u1 : (cloFrom X.env.cells scope.names []).lookup ("low" : Str) = some ((X.env.cells.lookup ("low" : Str)).getD 0)) (u2 : (cloFrom X.env.cells scope.names []).lookup ("high" : Str) = some ((X.env.cells.lookup ("high" : Str)).getD 0)) :
    EltC X P0 z scope "number" (.Call (.Name "is_within_bounds" p1) [.Name "number" p2, .Name "low" p3, .Name "high" p4] [] p5) (fun v => ∃ i, v = .int i ∧ lo ≤ i ∧ i ≤ hi) (fun _ => true) := by
  rintro cenv A' E' v u t m rv ⟨i, rfl, h1, h2⟩ hA hD hU hsc hgl hbl hcs old hn hm
  obtain ⟨tk, rfl⟩ := rv
  have M := I.ok.mod
  have hb : ∀ b o, X.base.get? b = some o → t.heap.get? b = some o := fun b o e => old b o (fun zz => by
    have no := (I.bs b o e).2
    obtain ⟨tab, e2, _⟩ := tP
    rw [zz, e2] at no
    cases no) (I.bk b o e)
  have kd : cenv.scope.kind = .function := by rw [hsc]; exact hk
  have kI : cenv.kindOf "is_within_bounds" = some .globalImplicit := by show cenv.scope.names.lookup _ = _; rw [hsc]; exact l0
  have kT : cenv.kindOf "number" = some .local := by show cenv.scope.names.lookup _ = _; rw [hsc]; exact l1
  refine wpAny_Call_Name_kw (Calls.Name_function_global kd kI (Calls.loadGlobal_global (by rw [hgl]; exact M.glob.keeps hb) gW ?_) (by decide))
  refine PySem.W.callWith_K (h₀ := X.base) M.kin FW.kp ?_ (by rfl) (by rfl)
  show wpAny _ _ (spliced ((false, eval (.Name "number" p2) cenv) :: (false, eval (.Name "low" p3) cenv) :: (false, eval (.Name "high" p4) cenv) :: [])) _ _ _
  refine Calls.spliced_cons (wpAny_Name (wpAny_loadName_local kd kT hn hm ?_) (by decide))
  refine Calls.spliced_cons (free_read I n1 v1 c1 tP hsc hk f1 hcs u1 old fun w1 r1 => ?_)
  obtain ⟨t1, rfl⟩ := r1
  refine Calls.spliced_cons (free_read I n2 v2 c2 tP hsc hk f2 hcs u2 old fun w2 r2 => ?_)
  obtain ⟨t2, rfl⟩ := r2
  refine Calls.spliced_nil ⟨M.kin.keeps hb, ?_⟩
  exact wpAny_call (within_call FW FI gI B M (by have := hr.dp; omega) hb h1 h2 fun s' hs => ⟨rfl, hs⟩)
def spAwb (K : PySem.W.Frag) (T : Addr → Prop) : Sp := fun vs H Q _ => ∃ (a : Addr) (l : List Nat) (lo hi : Int), vs = [.ref a, .int lo, .int hi] ∧ SeqLT K H a (vl l) ∧ (∀ k ∈ l, lo ≤ (k : Int) ∧ (k : Int) ≤ hi) ∧ Tabs H T ∧ ∀ H', Go T H H' → Q (.bl true) H'
theorem ok_awb {f fL fI fW c t2 : Addr} {fd fdL fdI fdW : FuncData} (F : Fun K "are_within_bounds" "are_within_bounds" s_awb f fd) (hc : fd.code = .ref c) (hT : T t2) (TB : GxR.TabB base mg c t2) (L : Df K mg "is_list" s_is_list ["value"] fL fdL) (W : Df K mg "is_within_bounds" s_is_within_bounds ["value", "low", "high"] fW fdW) (I : Df K mg "is_integer" s_is_integer ["value"] fI fdI) (B : Bl mg) :
    FnOk P w K mg base CX0 2 f fd ["value", "low", "high"] (spAwb K T) := by
  have G : FnOk P w K mg base CX0 1 fL fdL ["value"] (spIsl K T) := ok_is_list L.fn B
  obtain ⟨oc, od, kV, doc, pm, an, cdv, ct, osl, rfl, lk, hcd⟩ := F.ex
  have hc' : cdv = .ref c := hc
  subst hc'
  refine fn_of lk hcd sc_awb (fun vs H Q E h => ?_) (fun A outer s H vs Q E hr h => ?_)
  · obtain ⟨a, l, lo, hi, rfl, _⟩ := h
    rfl
  · obtain ⟨a, l, lo, hi, rfl, hs, hb, ht, q⟩ := h
    refine ⟨_, pss_one (ps_ret (pe_and (pe_call G hr (by rfl) L.at_ L.fn.kp L.bind .nil pass0 (pa_cons (pv 0) pa_nil))
      (pe_one (pe_allC hr (by rfl) B.all (by decide +kernel) TB rfl (gens_free ["low", "high"] rfl rfl (by decide +kernel) (by rfl) (by rfl) (by decide +kernel) (fun f hf => by
        rcases List.mem_cons.mp hf with rfl | hf
        · exact ⟨_, rfl⟩
        · cases List.mem_singleton.mp hf
          exact ⟨_, rfl⟩)) (pv 0) (fun _ => rfl))))), ?_⟩
    refine ⟨.ref a, rfl, a, vl l, rfl, hs, ht, fun H1 g1 => ⟨true, rfl, iteT ?_⟩⟩
    refine ⟨.ref a, rfl, a, vl l, (fun v => ∃ i, v = .int i ∧ lo ≤ i ∧ i ≤ hi), (fun _ => true), rfl, g1.lt ht hs, fun v hv => ?_, g1.1 _ hT, fun ps z I1 => ?_, fun H2 tb => ?_⟩
    · obtain ⟨i, hi', rfl⟩ := List.mem_map.mp hv
      obtain ⟨k, hk, rfl⟩ := List.mem_map.mp hi'
      exact ⟨_, rfl, hb k hk⟩
    · exact elt_within W.fn W.at_ I.fn I.at_ B hr I1 (g1.1 _ hT) rfl rfl rfl rfl (by rfl) (by rfl) rfl (by rfl) (by rfl) (by rfl) (by rfl) (by rfl) (by rfl)
    · rw [List.all_eq_true.mpr (fun _ _ => rfl)]
      exact q _ (g1.trans (Go.tabbed hT g1.1 tb))
end
end Lb

set_option Elab.async false
set_option linter.all false
set_option maxRecDepth 100000
set_option maxHeartbeats 4000000
namespace Pv
open PySem PySem.Spec PyProof.Rows L2 Lb
section
variable {P : Program} {w : World} {K : PySem.W.Frag} {mg : Str → Option Value} {base : Heap} {T : Addr → Prop}
theorem natsD_at {g H : Hp} {x : V} {d : D} {l : List Nat} (p : Pre K T g H) (x1 : Dp K g x d) (h : natsD d = some l) : ∃ a, x = .ref a ∧ SeqLT K H a (vl l) := by
  unfold natsD at h
  cases e : intsOf d with
  | none => rw [e] at h; cases h
  | some ns =>
    rw [e, Option.bind_some] at h
    have o : Ok K T (fun _ => False) ⟨g, H, [], []⟩ := ⟨p.tab, p.gT, p.le, rfl, fun _ z => z.elim, p.kn, fun i d e => by simp at e, fun i b ds e => by simp at e, fun i j q ⟨⟨b, ds, e⟩, _⟩ => by simp at e⟩
    obtain ⟨a, e1, e2⟩ := intsOf_at (a := ⟨g, H, [], []⟩) o (.inl x1) e
    rw [natsI_eq h] at e2
    exact ⟨a, e1, e2⟩
theorem isOrdB_ok {l : List Nat} (h : isOrdB l = true) : IsOrd l := by
  unfold isOrdB at h
  simp only [Bool.and_eq_true, decide_eq_true_eq] at h
  exact ⟨h.1.1, h.1.2, List.isPerm_iff.mp h.2⟩
theorem og_is_order {k : Nat} {f : Addr} {fd : FuncData} (F : FnOk P w K mg base CX0 k f fd ["value"] (spIsOrder K T)) : FnG P w K mg base k f fd ["value"] (spH K T 1 p_is_order) := FnG.of F fun vs H Q E h => by
  obtain ⟨g, ds, d, pr, ln, xd, ef, q⟩ := h
  match ds, ln with
  | [d0], _ =>
    unfold p_is_order at ef
    simp only at ef
    cases e1 : natsD d0 with
    | none => rw [e1] at ef; cases ef
    | some l =>
      rw [e1, Option.bind_some] at ef
      split at ef
      · rename_i hb
        cases ef
        obtain ⟨v, rfl, x1⟩ := dpa_one xd
        obtain ⟨a, rfl, hs⟩ := natsD_at pr x1 e1
        exact ⟨a, l, rfl, hs, isOrdB_ok hb, pr.tab, fun H' g' => q _ g H' (Post.grow pr g'.1 g'.2) (.bl _)⟩
      · cases ef
theorem og_awb {k : Nat} {f : Addr} {fd : FuncData} (F : FnOk P w K mg base CX0 k f fd ["value", "low", "high"] (spAwb K T)) : FnG P w K mg base k f fd ["value", "low", "high"] (spH K T 3 p_are_within_bounds) := FnG.of F fun vs H Q E h => by
  obtain ⟨g, ds, d, pr, ln, xd, ef, q⟩ := h
  unfold p_are_within_bounds at ef
  split at ef
  · rename_i d0 lo hi
    cases e1 : natsD d0 with
    | none => rw [e1] at ef; cases ef
    | some l =>
      rw [e1, Option.bind_some] at ef
      split at ef
      · rename_i hb
        cases ef
        cases xd with
        | cons x1 xd =>
          cases xd with
          | cons x2 xd =>
            cases xd with
            | cons x3 xd =>
              cases xd
              cases x2
              cases x3
              obtain ⟨a, rfl, hs⟩ := natsD_at pr x1 e1
              refine ⟨a, l, lo, hi, rfl, hs, fun k hk => ?_, pr.tab, fun H' g' => q _ g H' (Post.grow pr g'.1 g'.2) (.bl _)⟩
              have := List.all_eq_true.mp hb k hk
              simpa using this
      · cases ef
  · cases ef
end
end Pv

set_option Elab.async false
set_option linter.all false
set_option maxRecDepth 100000
set_option maxHeartbeats 4000000
namespace Pv
open PySem PySem.Spec PyProof.Rows L2 Lb
section
variable {P : Program} {w : World} {K : PySem.W.Frag} {mg : Str → Option Value} {base : Heap} {T : Addr → Prop} {f : Addr} {fd : FuncData}
abbrev st_is_integer : Stmt := topS 2
theorem sc_is_integer : FnScope ["value"] ["value"] (defScope st_is_integer) := ⟨rfl, rfl, rfl, by decide +kernel, rfl, by decide +kernel, by decide +kernel⟩
theorem ok_is_integer (F : Fun K "is_integer" "is_integer" st_is_integer f fd) (m_bool : mg "bool" = none) (m_int : mg "int" = none) (m_isinstance : mg "isinstance" = none) : FnG P w K mg base 1 f fd ["value"] (spH K T 1 p_is_integer) := by
  refine okH F sc_is_integer fun cdv A outer s H E hg hr => ?_
  have hu := hr.units; have hu1 : (A.deeper (envOfC "is_integer" (defScope st_is_integer) s.heap.objs.size f cdv)).units + 1 < cLine := by omega
  have hu5 : (A.deeper (envOfC "is_integer" (defScope st_is_integer) s.heap.objs.size f cdv)).units + 65 < cLine := by have := hr.un; omega
  have hu9 : (A.deeper (envOfC "is_integer" (defScope st_is_integer) s.heap.objs.size f cdv)).units + 9 < cLine := by omega
  exact ⟨_, (qss_one (qs_ret (qh_and (qp_isi "int" (by rfl) m_isinstance (qp_var 0 (pv 0)).b (by rfl) m_int (by decide +kernel)).h (qh_one (qh_not (qp_isi "bool" (by rfl) m_isinstance (qp_var 0 (pv 0)).b (by rfl) m_bool (by decide +kernel)).h)))))⟩
abbrev st_is_within_bounds : Stmt := topS 13
theorem sc_is_within_bounds : FnScope ["value", "low", "high"] ["value", "low", "high"] (defScope st_is_within_bounds) := ⟨rfl, rfl, rfl, by decide +kernel, rfl, by decide +kernel, by decide +kernel⟩
theorem ok_is_within_bounds (F : Fun K "is_within_bounds" "is_within_bounds" st_is_within_bounds f fd) (k_is_integer : Cg P w K mg base 1 "is_integer" ["value"] (spH K T 1 p_is_integer)) : FnG P w K mg base 2 f fd ["value", "low", "high"] (spH K T 3 p_is_within_bounds) := by
  refine okH F sc_is_within_bounds fun cdv A outer s H E hg hr => ?_
  have hu := hr.units; have hu1 : (A.deeper (envOfC "is_within_bounds" (defScope st_is_within_bounds) s.heap.objs.size f cdv)).units + 1 < cLine := by omega
  have hu5 : (A.deeper (envOfC "is_within_bounds" (defScope st_is_within_bounds) s.heap.objs.size f cdv)).units + 65 < cLine := by have := hr.un; omega
  have hu9 : (A.deeper (envOfC "is_within_bounds" (defScope st_is_within_bounds) s.heap.objs.size f cdv)).units + 9 < cLine := by omega
  exact ⟨_, (qss_one (qs_ret (qh_and (qh_call k_is_integer hg (hr.mono (by decide)) (by rfl) (qa_cons (qp_var 0 (pv 0)).h qa_nil)) (qh_one (qp_chain op_le op_le (qp_var 1 (pv 1)).b (qp_var 0 (pv 0)).b (qp_var 2 (pv 2)).b).h))))⟩
abbrev st_check_order : Stmt := topS 15
theorem sc_check_order : FnScope ["order"] ["order"] (defScope st_check_order) := ⟨rfl, rfl, rfl, by decide +kernel, rfl, by decide +kernel, by decide +kernel⟩
theorem ok_check_order (F : Fun K "check_order" "check_order" st_check_order f fd) (k_is_order : Cg P w K mg base 3 "is_order" ["value"] (spH K T 1 p_is_order)) : FnG P w K mg base 4 f fd ["order"] (spH K T 1 p_check_order) := by
  refine okH F sc_check_order fun cdv A outer s H E hg hr => ?_
  have hu := hr.units; have hu1 : (A.deeper (envOfC "check_order" (defScope st_check_order) s.heap.objs.size f cdv)).units + 1 < cLine := by omega
  have hu5 : (A.deeper (envOfC "check_order" (defScope st_check_order) s.heap.objs.size f cdv)).units + 65 < cLine := by have := hr.un; omega
  have hu9 : (A.deeper (envOfC "check_order" (defScope st_check_order) s.heap.objs.size f cdv)).units + 9 < cLine := by omega
  exact ⟨_, (qss_one (qs_if (qt_not (qt_val (qh_call k_is_order hg (hr.mono (by decide)) (by rfl) (qa_cons (qp_var 0 (pv 0)).h qa_nil))))
        (qss_one qs_never) qss_nil))⟩
abbrev st_check_orders : Stmt := topS 16
theorem sc_check_orders : FnScope ["order", "other"] ["order", "other"] (defScope st_check_orders) := ⟨rfl, rfl, rfl, by decide +kernel, rfl, by decide +kernel, by decide +kernel⟩
theorem ok_check_orders (F : Fun K "check_orders" "check_orders" st_check_orders f fd) (k_check_order : Cg P w K mg base 4 "check_order" ["order"] (spH K T 1 p_check_order)) (m_len : mg "len" = none) : FnG P w K mg base 5 f fd ["order", "other"] (spH K T 2 p_check_orders) := by
  refine okH F sc_check_orders fun cdv A outer s H E hg hr => ?_
  have hu := hr.units; have hu1 : (A.deeper (envOfC "check_orders" (defScope st_check_orders) s.heap.objs.size f cdv)).units + 1 < cLine := by omega
  have hu5 : (A.deeper (envOfC "check_orders" (defScope st_check_orders) s.heap.objs.size f cdv)).units + 65 < cLine := by have := hr.un; omega
  have hu9 : (A.deeper (envOfC "check_orders" (defScope st_check_orders) s.heap.objs.size f cdv)).units + 9 < cLine := by omega
  exact ⟨_, (qss_cons (qs_expr (qh_call k_check_order hg (hr.mono (by decide)) (by rfl) (qa_cons (qp_var 0 (pv 0)).h qa_nil)))
      (qss_cons (qs_expr (qh_call k_check_order hg (hr.mono (by decide)) (by rfl) (qa_cons (qp_var 1 (pv 1)).h qa_nil)))
      (qss_one (qs_if (qt_neP hu (qp_len (by rfl) m_len (qp_var 0 (pv 0)).b).b (qp_len (by rfl) m_len (qp_var 1 (pv 1)).b).b)
        (qss_one qs_never) qss_nil))))⟩
abbrev st_check_number : Stmt := topS 17
theorem sc_check_number : FnScope ["value", "low", "high"] ["value", "low", "high"] (defScope st_check_number) := ⟨rfl, rfl, rfl, by decide +kernel, rfl, by decide +kernel, by decide +kernel⟩
theorem ok_check_number (F : Fun K "check_number" "check_number" st_check_number f fd) (k_is_within_bounds : Cg P w K mg base 2 "is_within_bounds" ["value", "low", "high"] (spH K T 3 p_is_within_bounds)) : FnG P w K mg base 3 f fd ["value", "low", "high"] (spH K T 3 p_check_number) := by
  refine okH F sc_check_number fun cdv A outer s H E hg hr => ?_
  have hu := hr.units; have hu1 : (A.deeper (envOfC "check_number" (defScope st_check_number) s.heap.objs.size f cdv)).units + 1 < cLine := by omega
  have hu5 : (A.deeper (envOfC "check_number" (defScope st_check_number) s.heap.objs.size f cdv)).units + 65 < cLine := by have := hr.un; omega
  have hu9 : (A.deeper (envOfC "check_number" (defScope st_check_number) s.heap.objs.size f cdv)).units + 9 < cLine := by omega
  exact ⟨_, (qss_one (qs_if (qt_not (qt_val (qh_call k_is_within_bounds hg (hr.mono (by decide)) (by rfl) (qa_cons (qp_var 0 (pv 0)).h (qa_cons (qp_var 1 (pv 1)).h (qa_cons (qp_var 2 (pv 2)).h qa_nil))))))
        (qss_one qs_never) qss_nil))⟩
abbrev st_check_many : Stmt := topS 18
theorem sc_check_many : FnScope ["many"] ["many"] (defScope st_check_many) := ⟨rfl, rfl, rfl, by decide +kernel, rfl, by decide +kernel, by decide +kernel⟩
theorem ok_check_many (F : Fun K "check_many" "check_many" st_check_many f fd) (k_check_number : Cg P w K mg base 3 "check_number" ["value", "low", "high"] (spH K T 3 p_check_number)) {v_MOST_THINGS : V} (c_MOST_THINGS : CGl mg K "MOST_THINGS" v_MOST_THINGS (.int 9)) : FnG P w K mg base 4 f fd ["many"] (spH K T 1 p_check_many) := by
  refine okH F sc_check_many fun cdv A outer s H E hg hr => ?_
  have hu := hr.units; have hu1 : (A.deeper (envOfC "check_many" (defScope st_check_many) s.heap.objs.size f cdv)).units + 1 < cLine := by omega
  have hu5 : (A.deeper (envOfC "check_many" (defScope st_check_many) s.heap.objs.size f cdv)).units + 65 < cLine := by have := hr.un; omega
  have hu9 : (A.deeper (envOfC "check_many" (defScope st_check_many) s.heap.objs.size f cdv)).units + 9 < cLine := by omega
  exact ⟨_, (qss_one (qs_expr (qh_call k_check_number hg (hr.mono (by decide)) (by rfl) (qa_cons (qp_var 0 (pv 0)).h (qa_cons (qp_int).h (qa_cons (qp_gl (by rfl) c_MOST_THINGS).h qa_nil))))))⟩
abbrev st_swapped : Stmt := topS 20
theorem sc_swapped : FnScope ["order", "first", "second", "things"] ["order", "first", "second"] (defScope st_swapped) := ⟨rfl, rfl, rfl, by decide +kernel, rfl, by decide +kernel, by decide +kernel⟩
theorem ok_swapped (F : Fun K "swapped" "swapped" st_swapped f fd) (m_list : mg "list" = none) (m_tuple : mg "tuple" = none) : FnG P w K mg base 1 f fd ["order", "first", "second"] (spH K T 3 p_swapped) := by
  refine okH F sc_swapped fun cdv A outer s H E hg hr => ?_
  have hu := hr.units; have hu1 : (A.deeper (envOfC "swapped" (defScope st_swapped) s.heap.objs.size f cdv)).units + 1 < cLine := by omega
  have hu5 : (A.deeper (envOfC "swapped" (defScope st_swapped) s.heap.objs.size f cdv)).units + 65 < cLine := by have := hr.un; omega
  have hu9 : (A.deeper (envOfC "swapped" (defScope st_swapped) s.heap.objs.size f cdv)).units + 9 < cLine := by omega
  exact ⟨_, (qss_cons (qs_setO (i := 3) sc_swapped.nd rfl (Or.inl rfl) (qo_list (by rfl) m_list (qp_var 0 (pv 0)).b))
      (qss_cons (qs_asg (qh_tup (qa_cons (qp_ix (qb_var 3 (pv 3)) (qp_var 2 (pv 2)).b (fun _ _ => rfl)).h (qa_cons (qp_ix (qb_var 3 (pv 3)) (qp_var 1 (pv 1)).b (fun _ _ => rfl)).h qa_nil))) (qg_tup rfl (qgs_cons (qg_sub 3 (pv 3) (qp_var 1 (pv 1)).h) (qgs_cons (qg_sub 3 (pv 3) (qp_var 2 (pv 2)).h) qgs_nil))))
      (qss_one (qs_ret (qp_tup (by rfl) m_tuple (qb_var 3 (pv 3))).h))))⟩
abbrev st_wrong_pairs : Stmt := topS 21
theorem sc_wrong_pairs : FnScope ["order", "size", "i", "j"] ["order"] (defScope st_wrong_pairs) := ⟨rfl, rfl, rfl, by decide +kernel, rfl, by decide +kernel, by decide +kernel⟩
theorem ok_wrong_pairs (F : Fun K "wrong_pairs" "wrong_pairs" st_wrong_pairs f fd) (k_check_order : Cg P w K mg base 4 "check_order" ["order"] (spH K T 1 p_check_order)) (m_len : mg "len" = none) (m_range : mg "range" = none) : FnG P w K mg base 5 f fd ["order"] (spO K T 1 p_wrong_pairs) := by
  refine okO F sc_wrong_pairs fun cdv A outer s H E hg hr => ?_
  have hu := hr.units; have hu1 : (A.deeper (envOfC "wrong_pairs" (defScope st_wrong_pairs) s.heap.objs.size f cdv)).units + 1 < cLine := by omega
  have hu5 : (A.deeper (envOfC "wrong_pairs" (defScope st_wrong_pairs) s.heap.objs.size f cdv)).units + 65 < cLine := by have := hr.un; omega
  have hu9 : (A.deeper (envOfC "wrong_pairs" (defScope st_wrong_pairs) s.heap.objs.size f cdv)).units + 9 < cLine := by omega
  exact ⟨_, (qss_cons (qs_expr (qh_call k_check_order hg (hr.mono (by decide)) (by rfl) (qa_cons (qp_var 0 (pv 0)).h qa_nil)))
      (qss_cons (qs_set (i := 1) sc_wrong_pairs.nd rfl (Or.inr rfl) (qp_len (by rfl) m_len (qp_var 0 (pv 0)).b).h)
      (qss_one (qs_retO (qo_lc2 (own := [("i", 2), ("j", 3)]) (vs1 := [3]) rfl sc_wrong_pairs.nd (qi_rng1 (by rfl) m_range (qa_cons (qp_var 1 (pv 1)).h qa_nil)) (blkOk_by (by rfl)) (by decide) (fun _ _ _ _ _ => (qg_name 2 (pg_name (i := 2) sc_wrong_pairs.nd rfl (Or.inl rfl)))) (fun _ _ _ _ _ => qts_nil) (fun _ _ _ _ _ => (qi_rng2 (by rfl) m_range (qa_cons (qp_add (qp_var 2 (pv 2)).b (qp_int).b).h (qa_cons (qp_var 1 (pv 1)).h qa_nil)))) (fun _ _ _ _ _ => (qg_name 3 (pg_name (i := 3) sc_wrong_pairs.nd rfl (Or.inl rfl)))) (fun _ _ _ _ _ => (qts_one (qt_cmP op_gt os_gt (qp_ix (qp_var 0 (pv 0)).b (qp_var 2 (pv 2)).b (fun _ _ => rfl)).b (qp_ix (qp_var 0 (pv 0)).b (qp_var 3 (pv 3)).b (fun _ _ => rfl)).b (nomark _)))) (fun _ _ _ _ _ => (qh_tup (qa_cons (qp_var 2 (pv 2)).h (qa_cons (qp_var 3 (pv 3)).h qa_nil)))) (by decide) (by decide))))))⟩
abbrev st_level : Stmt := topS 22
theorem sc_level : FnScope ["order"] ["order"] (defScope st_level) := ⟨rfl, rfl, rfl, by decide +kernel, rfl, by decide +kernel, by decide +kernel⟩
theorem ok_level (F : Fun K "level" "level" st_level f fd) (k_wrong_pairs : Cg P w K mg base 5 "wrong_pairs" ["order"] (spO K T 1 p_wrong_pairs)) (m_len : mg "len" = none) : FnG P w K mg base 6 f fd ["order"] (spH K T 1 p_level) := by
  refine okH F sc_level fun cdv A outer s H E hg hr => ?_
  have hu := hr.units; have hu1 : (A.deeper (envOfC "level" (defScope st_level) s.heap.objs.size f cdv)).units + 1 < cLine := by omega
  have hu5 : (A.deeper (envOfC "level" (defScope st_level) s.heap.objs.size f cdv)).units + 65 < cLine := by have := hr.un; omega
  have hu9 : (A.deeper (envOfC "level" (defScope st_level) s.heap.objs.size f cdv)).units + 9 < cLine := by omega
  exact ⟨_, (qss_one (qs_ret (qh_len (by rfl) m_len (qo_call k_wrong_pairs hg (hr.mono (by decide)) (by rfl) (qa_cons (qp_var 0 (pv 0)).h qa_nil)).h)))⟩
abbrev st_undone : Stmt := topS 23
theorem sc_undone : FnScope ["order", "thing"] ["order"] (defScope st_undone) := ⟨rfl, rfl, rfl, by decide +kernel, rfl, by decide +kernel, by decide +kernel⟩
theorem ok_undone (F : Fun K "undone" "undone" st_undone f fd) (k_check_order : Cg P w K mg base 4 "check_order" ["order"] (spH K T 1 p_check_order)) (kt : KT K) (m_len : mg "len" = none) (m_range : mg "range" = none) (m_tuple : mg "tuple" = none) : FnG P w K mg base 5 f fd ["order"] (spH K T 1 p_undone) := by
  refine okH F sc_undone fun cdv A outer s H E hg hr => ?_
  have hu := hr.units; have hu1 : (A.deeper (envOfC "undone" (defScope st_undone) s.heap.objs.size f cdv)).units + 1 < cLine := by omega
  have hu5 : (A.deeper (envOfC "undone" (defScope st_undone) s.heap.objs.size f cdv)).units + 65 < cLine := by have := hr.un; omega
  have hu9 : (A.deeper (envOfC "undone" (defScope st_undone) s.heap.objs.size f cdv)).units + 9 < cLine := by omega
  exact ⟨_, (qss_cons (qs_expr (qh_call k_check_order hg (hr.mono (by decide)) (by rfl) (qa_cons (qp_var 0 (pv 0)).h qa_nil)))
      (qss_one (qs_ret (qh_tupc (by rfl) m_tuple (qo_lc (own := [("thing", 1)]) rfl sc_undone.nd (qi_rng2 (by rfl) m_range (qa_cons (qp_int).h (qa_cons (qp_add (qp_len (by rfl) m_len (qp_var 0 (pv 0)).b).b (qp_int).b).h qa_nil))) (blkOk_by (by rfl)) (fun _ _ _ _ _ => (qg_name 1 (pg_name (i := 1) sc_undone.nd rfl (Or.inl rfl)))) (fun _ _ _ _ _ => qts_nil) (fun _ _ _ _ _ => (qp_add (qp_idx kt (qp_var 0 (pv 0)).b (qp_var 1 (pv 1)).b).b (qp_int).b).h) (by decide)).h))))⟩
abbrev st_one_behind : Stmt := topS 24
theorem sc_one_behind : FnScope ["order", "other", "place"] ["order", "other"] (defScope st_one_behind) := ⟨rfl, rfl, rfl, by decide +kernel, rfl, by decide +kernel, by decide +kernel⟩
theorem ok_one_behind (F : Fun K "one_behind" "one_behind" st_one_behind f fd) (k_check_orders : Cg P w K mg base 5 "check_orders" ["order", "other"] (spH K T 2 p_check_orders)) (m_tuple : mg "tuple" = none) : FnG P w K mg base 6 f fd ["order", "other"] (spH K T 2 p_one_behind) := by
  refine okH F sc_one_behind fun cdv A outer s H E hg hr => ?_
  have hu := hr.units; have hu1 : (A.deeper (envOfC "one_behind" (defScope st_one_behind) s.heap.objs.size f cdv)).units + 1 < cLine := by omega
  have hu5 : (A.deeper (envOfC "one_behind" (defScope st_one_behind) s.heap.objs.size f cdv)).units + 65 < cLine := by have := hr.un; omega
  have hu9 : (A.deeper (envOfC "one_behind" (defScope st_one_behind) s.heap.objs.size f cdv)).units + 9 < cLine := by omega
  exact ⟨_, (qss_cons (qs_expr (qh_call k_check_orders hg (hr.mono (by decide)) (by rfl) (qa_cons (qp_var 0 (pv 0)).h (qa_cons (qp_var 1 (pv 1)).h qa_nil))))
      (qss_one (qs_ret (qh_tupc (by rfl) m_tuple (qo_lc (own := [("place", 2)]) rfl sc_one_behind.nd (qi_seq (qp_var 1 (pv 1)).h) (blkOk_by (by rfl)) (fun _ _ _ _ _ => (qg_name 2 (pg_name (i := 2) sc_one_behind.nd rfl (Or.inl rfl)))) (fun _ _ _ _ _ => qts_nil) (fun _ _ _ _ _ => (qp_ix (qp_var 0 (pv 0)).b (qp_sub (qp_var 2 (pv 2)).b (qp_int).b).b (fun _ _ => rfl)).h) (by decide)).h))))⟩
end
end Pv

set_option Elab.async false
set_option linter.all false
set_option maxRecDepth 100000
set_option maxHeartbeats 4000000
namespace Pv
open PySem PySem.Spec PyProof.Rows L2 Lb
section
variable {P : Program} {w : World} {K : PySem.W.Frag} {mg : Str → Option Value} {base : Heap} {T : Addr → Prop} {f : Addr} {fd : FuncData}
abbrev st_falls : Stmt := topS 25
theorem sc_falls : FnScope ["order", "place"] ["order"] (defScope st_falls) := ⟨rfl, rfl, rfl, by decide +kernel, rfl, by decide +kernel, by decide +kernel⟩
theorem ok_falls (F : Fun K "falls" "falls" st_falls f fd) (k_check_order : Cg P w K mg base 4 "check_order" ["order"] (spH K T 1 p_check_order)) (m_len : mg "len" = none) (m_range : mg "range" = none) : FnG P w K mg base 5 f fd ["order"] (spO K T 1 p_falls) := by
  refine okO F sc_falls fun cdv A outer s H E hg hr => ?_
  have hu := hr.units; have hu1 : (A.deeper (envOfC "falls" (defScope st_falls) s.heap.objs.size f cdv)).units + 1 < cLine := by omega
  have hu5 : (A.deeper (envOfC "falls" (defScope st_falls) s.heap.objs.size f cdv)).units + 65 < cLine := by have := hr.un; omega
  have hu9 : (A.deeper (envOfC "falls" (defScope st_falls) s.heap.objs.size f cdv)).units + 9 < cLine := by omega
  exact ⟨_, (qss_cons (qs_expr (qh_call k_check_order hg (hr.mono (by decide)) (by rfl) (qa_cons (qp_var 0 (pv 0)).h qa_nil)))
      (qss_one (qs_retO (qo_lc (own := [("place", 1)]) rfl sc_falls.nd (qi_rng1 (by rfl) m_range (qa_cons (qp_sub (qp_len (by rfl) m_len (qp_var 0 (pv 0)).b).b (qp_int).b).h qa_nil)) (blkOk_by (by rfl)) (fun _ _ _ _ _ => (qg_name 1 (pg_name (i := 1) sc_falls.nd rfl (Or.inl rfl)))) (fun _ _ _ _ _ => (qts_one (qt_cmP op_gt os_gt (qp_ix (qp_var 0 (pv 0)).b (qp_var 1 (pv 1)).b (fun _ _ => rfl)).b (qp_ix (qp_var 0 (pv 0)).b (qp_add (qp_var 1 (pv 1)).b (qp_int).b).b (fun _ _ => rfl)).b (nomark _)))) (fun _ _ _ _ _ => (qp_var 1 (pv 1)).h) (by decide)))))⟩
abbrev st_is_word : Stmt := topS 28
theorem sc_is_word : FnScope ["word", "many"] ["word", "many"] (defScope st_is_word) := ⟨rfl, rfl, rfl, by decide +kernel, rfl, by decide +kernel, by decide +kernel⟩
theorem ok_is_word (F : Fun K "is_word" "is_word" st_is_word f fd) (k_is_within_bounds : Cg P w K mg base 2 "is_within_bounds" ["value", "low", "high"] (spH K T 3 p_is_within_bounds)) (k_are_within_bounds : Cg P w K mg base 3 "are_within_bounds" ["value", "low", "high"] (spH K T 3 p_are_within_bounds)) (m_len : mg "len" = none) {v_MOST_LETTERS : V} (c_MOST_LETTERS : CGl mg K "MOST_LETTERS" v_MOST_LETTERS (.int 40)) {v_MOST_THINGS : V} (c_MOST_THINGS : CGl mg K "MOST_THINGS" v_MOST_THINGS (.int 9)) : FnG P w K mg base 4 f fd ["word", "many"] (spH K T 2 p_is_word) := by
  refine okH F sc_is_word fun cdv A outer s H E hg hr => ?_
  have hu := hr.units; have hu1 : (A.deeper (envOfC "is_word" (defScope st_is_word) s.heap.objs.size f cdv)).units + 1 < cLine := by omega
  have hu5 : (A.deeper (envOfC "is_word" (defScope st_is_word) s.heap.objs.size f cdv)).units + 65 < cLine := by have := hr.un; omega
  have hu9 : (A.deeper (envOfC "is_word" (defScope st_is_word) s.heap.objs.size f cdv)).units + 9 < cLine := by omega
  exact ⟨_, (qss_cons (qs_if (qt_not (qt_val (qh_call k_is_within_bounds hg (hr.mono (by decide)) (by rfl) (qa_cons (qp_var 1 (pv 1)).h (qa_cons (qp_int).h (qa_cons (qp_gl (by rfl) c_MOST_THINGS).h qa_nil))))))
        (qss_one (qs_ret (qp_bl).h)) qss_nil)
      (qss_one (qs_ret (qh_and (qh_call k_are_within_bounds hg (hr.mono (by decide)) (by rfl) (qa_cons (qp_var 0 (pv 0)).h (qa_cons (qp_int).h (qa_cons (qp_sub (qp_var 1 (pv 1)).b (qp_int).b).h qa_nil)))) (qh_one (qp_le (qp_len (by rfl) m_len (qp_var 0 (pv 0)).b).b (qp_gl (by rfl) c_MOST_LETTERS).b).h)))))⟩
abbrev st_check_word : Stmt := topS 29
theorem sc_check_word : FnScope ["word", "many"] ["word", "many"] (defScope st_check_word) := ⟨rfl, rfl, rfl, by decide +kernel, rfl, by decide +kernel, by decide +kernel⟩
theorem ok_check_word (F : Fun K "check_word" "check_word" st_check_word f fd) (k_check_many : Cg P w K mg base 4 "check_many" ["many"] (spH K T 1 p_check_many)) (k_is_word : Cg P w K mg base 4 "is_word" ["word", "many"] (spH K T 2 p_is_word)) : FnG P w K mg base 5 f fd ["word", "many"] (spH K T 2 p_check_word) := by
  refine okH F sc_check_word fun cdv A outer s H E hg hr => ?_
  have hu := hr.units; have hu1 : (A.deeper (envOfC "check_word" (defScope st_check_word) s.heap.objs.size f cdv)).units + 1 < cLine := by omega
  have hu5 : (A.deeper (envOfC "check_word" (defScope st_check_word) s.heap.objs.size f cdv)).units + 65 < cLine := by have := hr.un; omega
  have hu9 : (A.deeper (envOfC "check_word" (defScope st_check_word) s.heap.objs.size f cdv)).units + 9 < cLine := by omega
  exact ⟨_, (qss_cons (qs_expr (qh_call k_check_many hg (hr.mono (by decide)) (by rfl) (qa_cons (qp_var 1 (pv 1)).h qa_nil)))
      (qss_one (qs_if (qt_not (qt_val (qh_call k_is_word hg (hr.mono (by decide)) (by rfl) (qa_cons (qp_var 0 (pv 0)).h (qa_cons (qp_var 1 (pv 1)).h qa_nil)))))
        (qss_one qs_never) qss_nil)))⟩
abbrev st_word_order : Stmt := topS 30
theorem sc_word_order : FnScope ["word", "many", "things", "letter"] ["word", "many"] (defScope st_word_order) := ⟨rfl, rfl, rfl, by decide +kernel, rfl, by decide +kernel, by decide +kernel⟩
theorem ok_word_order (F : Fun K "word_order" "word_order" st_word_order f fd) (k_check_word : Cg P w K mg base 5 "check_word" ["word", "many"] (spH K T 2 p_check_word)) (k_swapped : Cg P w K mg base 1 "swapped" ["order", "first", "second"] (spH K T 3 p_swapped)) (m_range : mg "range" = none) (m_tuple : mg "tuple" = none) : FnG P w K mg base 6 f fd ["word", "many"] (spH K T 2 p_word_order) := by
  refine okH F sc_word_order fun cdv A outer s H E hg hr => ?_
  have hu := hr.units; have hu1 : (A.deeper (envOfC "word_order" (defScope st_word_order) s.heap.objs.size f cdv)).units + 1 < cLine := by omega
  have hu5 : (A.deeper (envOfC "word_order" (defScope st_word_order) s.heap.objs.size f cdv)).units + 65 < cLine := by have := hr.un; omega
  have hu9 : (A.deeper (envOfC "word_order" (defScope st_word_order) s.heap.objs.size f cdv)).units + 9 < cLine := by omega
  exact ⟨_, (qss_cons (qs_expr (qh_call k_check_word hg (hr.mono (by decide)) (by rfl) (qa_cons (qp_var 0 (pv 0)).h (qa_cons (qp_var 1 (pv 1)).h qa_nil))))
      (qss_cons (qs_set (i := 2) sc_word_order.nd rfl (Or.inl rfl) (qp_tupRg rfl (by rfl) m_tuple (by rfl) m_range (qp_int).b (qp_add (qp_var 1 (pv 1)).b (qp_int).b).b).h)
      (qss_cons (qs_for PassesOwn.never rfl (qi_seq (qp_var 0 (pv 0)).h) (qg_name 3 (pg_name (i := 3) sc_word_order.nd rfl (Or.inl rfl)))
        (qss_one (qs_set (i := 2) sc_word_order.nd rfl (Or.inl rfl) (qh_call k_swapped hg (hr.mono (by decide)) (by rfl) (qa_cons (qp_var 2 (pv 2)).h (qa_cons (qp_sub (qp_var 3 (pv 3)).b (qp_int).b).h (qa_cons (qp_var 3 (pv 3)).h qa_nil)))))))
      (qss_one (qs_ret (qp_var 2 (pv 2)).h)))))⟩
abbrev st_is_least : Stmt := topS 31
theorem sc_is_least : FnScope ["word", "many"] ["word", "many"] (defScope st_is_least) := ⟨rfl, rfl, rfl, by decide +kernel, rfl, by decide +kernel, by decide +kernel⟩
theorem ok_is_least (F : Fun K "is_least" "is_least" st_is_least f fd) (k_level : Cg P w K mg base 6 "level" ["order"] (spH K T 1 p_level)) (k_word_order : Cg P w K mg base 6 "word_order" ["word", "many"] (spH K T 2 p_word_order)) (m_len : mg "len" = none) : FnG P w K mg base 7 f fd ["word", "many"] (spH K T 2 p_is_least) := by
  refine okH F sc_is_least fun cdv A outer s H E hg hr => ?_
  have hu := hr.units; have hu1 : (A.deeper (envOfC "is_least" (defScope st_is_least) s.heap.objs.size f cdv)).units + 1 < cLine := by omega
  have hu5 : (A.deeper (envOfC "is_least" (defScope st_is_least) s.heap.objs.size f cdv)).units + 65 < cLine := by have := hr.un; omega
  have hu9 : (A.deeper (envOfC "is_least" (defScope st_is_least) s.heap.objs.size f cdv)).units + 9 < cLine := by omega
  exact ⟨_, (qss_one (qs_ret (qh_eq hu (qh_call k_level hg (hr.mono (by decide)) (by rfl) (qa_cons (qh_call k_word_order hg (hr.mono (by decide)) (by rfl) (qa_cons (qp_var 0 (pv 0)).h (qa_cons (qp_var 1 (pv 1)).h qa_nil))) qa_nil)) (qp_len (by rfl) m_len (qp_var 0 (pv 0)).b).h)))⟩
abbrev st_a_word : Stmt := topS 32
theorem sc_a_word : FnScope ["order", "things", "letters", "fallen"] ["order"] (defScope st_a_word) := ⟨rfl, rfl, rfl, by decide +kernel, rfl, by decide +kernel, by decide +kernel⟩
theorem ok_a_word (F : Fun K "a_word" "a_word" st_a_word f fd) (k_check_order : Cg P w K mg base 4 "check_order" ["order"] (spH K T 1 p_check_order)) (k_falls : Cg P w K mg base 5 "falls" ["order"] (spO K T 1 p_falls)) (k_swapped : Cg P w K mg base 1 "swapped" ["order", "first", "second"] (spH K T 3 p_swapped)) (m_tuple : mg "tuple" = none) : FnG P w K mg base 6 f fd ["order"] (spH K T 1 p_a_word) := by
  refine okH F sc_a_word fun cdv A outer s H E hg hr => ?_
  have hu := hr.units; have hu1 : (A.deeper (envOfC "a_word" (defScope st_a_word) s.heap.objs.size f cdv)).units + 1 < cLine := by omega
  have hu5 : (A.deeper (envOfC "a_word" (defScope st_a_word) s.heap.objs.size f cdv)).units + 65 < cLine := by have := hr.un; omega
  have hu9 : (A.deeper (envOfC "a_word" (defScope st_a_word) s.heap.objs.size f cdv)).units + 9 < cLine := by omega
  exact ⟨_, (qss_cons (qs_expr (qh_call k_check_order hg (hr.mono (by decide)) (by rfl) (qa_cons (qp_var 0 (pv 0)).h qa_nil)))
      (qss_cons (qs_set (i := 1) sc_a_word.nd rfl (Or.inl rfl) (qp_tup (by rfl) m_tuple (qp_var 0 (pv 0)).b).h)
      (qss_cons (qs_setO (i := 2) sc_a_word.nd rfl (Or.inl rfl) (qo_lst qa_nil))
      (qss_cons (qs_set (i := 3) sc_a_word.nd rfl (Or.inl rfl) (qo_call k_falls hg (hr.mono (by decide)) (by rfl) (qa_cons (qp_var 1 (pv 1)).h qa_nil)).h)
      (qss_cons (qs_while 1000 PassesOwn.never (qt_tru (qp_var 3 (pv 3)).b) (qss_cons (qs_expr (qh_app 2 (nm := default) (pv 2) (qp_add (qp_ix (qp_var 3 (pv 3)).b (qp_int).b (fun _ _ => rfl)).b (qp_int).b).h))
      (qss_cons (qs_set (i := 1) sc_a_word.nd rfl (Or.inl rfl) (qh_call k_swapped hg (hr.mono (by decide)) (by rfl) (qa_cons (qp_var 1 (pv 1)).h (qa_cons (qp_ix (qp_var 3 (pv 3)).b (qp_int).b (fun _ _ => rfl)).h (qa_cons (qp_add (qp_ix (qp_var 3 (pv 3)).b (qp_int).b (fun _ _ => rfl)).b (qp_int).b).h qa_nil)))))
      (qss_one (qs_set (i := 3) sc_a_word.nd rfl (Or.inl rfl) (qo_call k_falls hg (hr.mono (by decide)) (by rfl) (qa_cons (qp_var 1 (pv 1)).h qa_nil)).h)))))
      (qss_one (qs_ret (qp_rev (qb_var 2 (pv 2))).h)))))))⟩
abbrev st_l_pot : Stmt := topS 34
theorem sc_l_pot : FnScope ["_law_script", "_law_k", "_law_cell"] ["_law_script", "_law_k"] (defScope st_l_pot) := ⟨rfl, rfl, rfl, by decide +kernel, rfl, by decide +kernel, by decide +kernel⟩
theorem ok_l_pot (F : Fun K "_law_pot" "_law_pot" st_l_pot f fd) (m_abs : mg "abs" = none) (m_int : mg "int" = none) (m_len : mg "len" = none) (m_max : mg "max" = none) : FnG P w K mg base 1 f fd ["_law_script", "_law_k"] (spO K T 2 p_l_pot) := by
  refine okO F sc_l_pot fun cdv A outer s H E hg hr => ?_
  have hu := hr.units; have hu1 : (A.deeper (envOfC "_law_pot" (defScope st_l_pot) s.heap.objs.size f cdv)).units + 1 < cLine := by omega
  have hu5 : (A.deeper (envOfC "_law_pot" (defScope st_l_pot) s.heap.objs.size f cdv)).units + 65 < cLine := by have := hr.un; omega
  have hu9 : (A.deeper (envOfC "_law_pot" (defScope st_l_pot) s.heap.objs.size f cdv)).units + 9 < cLine := by omega
  exact ⟨_, (qss_cons (qs_set (i := 2) sc_l_pot.nd rfl (Or.inl rfl) (qp_add (qp_mul (qp_int).b (qp_var 1 (pv 1)).b).b (qp_int).b).h)
      (qss_cons (qs_if (qt_cmP op_lt os_lt (qp_var 1 (pv 1)).b (qp_len (by rfl) m_len (qp_var 0 (pv 0)).b).b (nomark _))
        (qss_one (qs_set (i := 2) sc_l_pot.nd rfl (Or.inl rfl) (qp_abs (by rfl) m_abs (qp_ix (qp_var 0 (pv 0)).b (qp_var 1 (pv 1)).b (fun _ _ => rfl)).b).h)) qss_nil)
      (qss_one (qs_retO (qo_lst (qa_cons (qp_max2 rfl (by rfl) m_max (qp_int).b (qp_sub (qp_var 2 (pv 2)).b (qp_pow (qp_int).b (qp_int).b).b).b).h (qa_cons (qp_add (qp_mod (qp_mul (qp_intc (by rfl) m_int (qp_add (qp_mod (qp_intc (by rfl) m_int (qp_var 2 (pv 2)).b).b (qp_int).b).b (qp_int).b).b).b (qp_pow (qp_add (qp_mul (qp_int).b (qp_var 1 (pv 1)).b).b (qp_int).b).b (qp_int).b).b).b (qp_int).b).b (qp_int).b).h qa_nil)))))))⟩
abbrev st_l_draw : Stmt := topS 35
theorem sc_l_draw : FnScope ["_law_pot_here", "_law_size", "_law_digit"] ["_law_pot_here", "_law_size"] (defScope st_l_draw) := ⟨rfl, rfl, rfl, by decide +kernel, rfl, by decide +kernel, by decide +kernel⟩
theorem ok_l_draw (F : Fun K "_law_draw" "_law_draw" st_l_draw f fd) (m_divmod : mg "divmod" = none) (m_int : mg "int" = none) : FnG P w K mg base 1 f fd ["_law_pot_here", "_law_size"] (spPH K T 1 p_l_draw) := by
  refine okPH F sc_l_draw fun cdv A outer s H E hg hr => ?_
  have hu := hr.units; have hu1 : (A.deeper (envOfC "_law_draw" (defScope st_l_draw) s.heap.objs.size f cdv)).units + 1 < cLine := by omega
  have hu5 : (A.deeper (envOfC "_law_draw" (defScope st_l_draw) s.heap.objs.size f cdv)).units + 65 < cLine := by have := hr.un; omega
  have hu9 : (A.deeper (envOfC "_law_draw" (defScope st_l_draw) s.heap.objs.size f cdv)).units + 9 < cLine := by omega
  exact ⟨_, (qss_cons (qs_if (qt_cmP op_gt os_gt (qp_ix (qb_var 0 (pv 0)) (qp_int).b (fun _ _ => rfl)).b (qp_int).b (nomark _))
        (qss_cons (qs_asg (qp_divmod (by rfl) m_divmod (qp_ix (qb_var 0 (pv 0)) (qp_int).b (fun _ _ => rfl)).b (qp_var 1 (pv 1)).b).h (qg_tup rfl (qgs_cons (qg_sub 0 (pv 0) (qp_int).h) (qgs_cons (qg_name 2 (pg_name (i := 2) sc_l_draw.nd rfl (Or.inl rfl))) qgs_nil))))
      (qss_one (qs_ret (qp_var 2 (pv 2)).h))) qss_nil)
      (qss_cons (qs_asg (qp_mod (qp_intc (by rfl) m_int (qp_add (qp_mul (qp_ix (qb_var 0 (pv 0)) (qp_int).b (fun _ _ => rfl)).b (qp_int).b).b (qp_int).b).b).b (qp_int).b).h (qg_sub 0 (pv 0) (qp_int).h))
      (qss_one (qs_ret (qp_mod (qp_intc (by rfl) m_int (qp_div (qp_mod (qp_intc (by rfl) m_int (qp_mul (qp_ix (qb_var 0 (pv 0)) (qp_int).b (fun _ _ => rfl)).b (qp_ix (qb_var 0 (pv 0)) (qp_int).b (fun _ _ => rfl)).b).b).b (qp_int).b).b (qp_int).b).b).b (qp_var 1 (pv 1)).b).h))))⟩
abbrev st_l_pick : Stmt := topS 36
theorem sc_l_pick : FnScope ["_law_pot_here", "_law_some"] ["_law_pot_here", "_law_some"] (defScope st_l_pick) := ⟨rfl, rfl, rfl, by decide +kernel, rfl, by decide +kernel, by decide +kernel⟩
theorem ok_l_pick (F : Fun K "_law_pick" "_law_pick" st_l_pick f fd) (k_l_draw : Cg P w K mg base 1 "_law_draw" ["_law_pot_here", "_law_size"] (spPH K T 1 p_l_draw)) (m_len : mg "len" = none) : FnG P w K mg base 2 f fd ["_law_pot_here", "_law_some"] (spPH K T 1 p_l_pick) := by
  refine okPH F sc_l_pick fun cdv A outer s H E hg hr => ?_
  have hu := hr.units; have hu1 : (A.deeper (envOfC "_law_pick" (defScope st_l_pick) s.heap.objs.size f cdv)).units + 1 < cLine := by omega
  have hu5 : (A.deeper (envOfC "_law_pick" (defScope st_l_pick) s.heap.objs.size f cdv)).units + 65 < cLine := by have := hr.un; omega
  have hu9 : (A.deeper (envOfC "_law_pick" (defScope st_l_pick) s.heap.objs.size f cdv)).units + 9 < cLine := by omega
  exact ⟨_, (qss_one (qs_ret (qh_ix (qp_var 1 (pv 1)).h (qh_callP 0 k_l_draw hg (hr.mono (by decide)) (by rfl) (pv 0) (qa_cons (qp_len (by rfl) m_len (qp_var 1 (pv 1)).b).h qa_nil)) (fun _ _ => rfl))))⟩
end
end Pv

set_option Elab.async false
set_option linter.all false
set_option maxRecDepth 100000
set_option maxHeartbeats 4000000
namespace Pv
open PySem PySem.Spec PyProof.Rows L2 Lb
section
variable {P : Program} {w : World} {K : PySem.W.Frag} {mg : Str → Option Value} {base : Heap} {T : Addr → Prop} {f : Addr} {fd : FuncData}
abbrev st_l_order : Stmt := topS 37
theorem sc_l_order : FnScope ["_law_pot_here", "_law_many", "_law_left", "_law_found", "_law_turn"] ["_law_pot_here", "_law_many"] (defScope st_l_order) := ⟨rfl, rfl, rfl, by decide +kernel, rfl, by decide +kernel, by decide +kernel⟩
theorem ok_l_order (F : Fun K "_law_order" "_law_order" st_l_order f fd) (k_l_draw : Cg P w K mg base 1 "_law_draw" ["_law_pot_here", "_law_size"] (spPH K T 1 p_l_draw)) (m_len : mg "len" = none) (m_list : mg "list" = none) (m_range : mg "range" = none) (m_tuple : mg "tuple" = none) : FnG P w K mg base 2 f fd ["_law_pot_here", "_law_many"] (spPH K T 1 p_l_order) := by
  refine okPH F sc_l_order fun cdv A outer s H E hg hr => ?_
  have hu := hr.units; have hu1 : (A.deeper (envOfC "_law_order" (defScope st_l_order) s.heap.objs.size f cdv)).units + 1 < cLine := by omega
  have hu5 : (A.deeper (envOfC "_law_order" (defScope st_l_order) s.heap.objs.size f cdv)).units + 65 < cLine := by have := hr.un; omega
  have hu9 : (A.deeper (envOfC "_law_order" (defScope st_l_order) s.heap.objs.size f cdv)).units + 9 < cLine := by omega
  exact ⟨_, (qss_cons (qs_par (i := 2) (j := 3) (by rfl) sc_l_order.nd rfl rfl (by decide) rfl rfl (qo_listRg rfl (by rfl) m_list (by rfl) m_range (qp_int).b (qp_add (qp_var 1 (pv 1)).b (qp_int).b).b).v (qo_lst qa_nil).v (by rfl))
      (qss_cons (qs_for PassesOwn.never rfl (qi_rng1 (by rfl) m_range (qa_cons (qp_var 1 (pv 1)).h qa_nil)) (qg_name 4 (pg_name (i := 4) sc_l_order.nd rfl (Or.inl rfl)))
        (qss_one (qs_expr (qh_app 3 (nm := default) (pv 3) (qh_popAt 2 (pv 2) (qh_callP 0 k_l_draw hg (hr.mono (by decide)) (by rfl) (pv 0) (qa_cons (qp_len (by rfl) m_len (qb_var 2 (pv 2))).h qa_nil)))))))
      (qss_one (qs_ret (qp_tup (by rfl) m_tuple (qb_var 3 (pv 3))).h))))⟩
abbrev st_l_passed : Stmt := topS 38
theorem sc_l_passed : FnScope ["_law_pot_here", "_law_order_here"] ["_law_pot_here", "_law_order_here"] (defScope st_l_passed) := ⟨rfl, rfl, rfl, by decide +kernel, rfl, by decide +kernel, by decide +kernel⟩
theorem ok_l_passed (F : Fun K "_law_passed" "_law_passed" st_l_passed f fd) (k_l_draw : Cg P w K mg base 1 "_law_draw" ["_law_pot_here", "_law_size"] (spPH K T 1 p_l_draw)) (m_list : mg "list" = none) (m_tuple : mg "tuple" = none) : FnG P w K mg base 2 f fd ["_law_pot_here", "_law_order_here"] (spPH K T 1 p_l_passed) := by
  refine okPH F sc_l_passed fun cdv A outer s H E hg hr => ?_
  have hu := hr.units; have hu1 : (A.deeper (envOfC "_law_passed" (defScope st_l_passed) s.heap.objs.size f cdv)).units + 1 < cLine := by omega
  have hu5 : (A.deeper (envOfC "_law_passed" (defScope st_l_passed) s.heap.objs.size f cdv)).units + 65 < cLine := by have := hr.un; omega
  have hu9 : (A.deeper (envOfC "_law_passed" (defScope st_l_passed) s.heap.objs.size f cdv)).units + 9 < cLine := by omega
  exact ⟨_, (qss_one (qs_ret (qh_if (qt_eqH hu (qh_callP 0 k_l_draw hg (hr.mono (by decide)) (by rfl) (pv 0) (qa_cons (qp_int).h qa_nil)) (qp_int).h) (qo_list (by rfl) m_list (qp_var 1 (pv 1)).b).h (qp_tup (by rfl) m_tuple (qp_var 1 (pv 1)).b).h)))⟩
abbrev st_l_wrong : Stmt := topS 39
theorem sc_l_wrong : FnScope ["_law_order_here", "_law_found", "_law_near", "_law_far"] ["_law_order_here"] (defScope st_l_wrong) := ⟨rfl, rfl, rfl, by decide +kernel, rfl, by decide +kernel, by decide +kernel⟩
theorem ok_l_wrong (F : Fun K "_law_wrong" "_law_wrong" st_l_wrong f fd) (m_len : mg "len" = none) (m_range : mg "range" = none) : FnG P w K mg base 1 f fd ["_law_order_here"] (spO K T 1 p_l_wrong) := by
  refine okO F sc_l_wrong fun cdv A outer s H E hg hr => ?_
  have hu := hr.units; have hu1 : (A.deeper (envOfC "_law_wrong" (defScope st_l_wrong) s.heap.objs.size f cdv)).units + 1 < cLine := by omega
  have hu5 : (A.deeper (envOfC "_law_wrong" (defScope st_l_wrong) s.heap.objs.size f cdv)).units + 65 < cLine := by have := hr.un; omega
  have hu9 : (A.deeper (envOfC "_law_wrong" (defScope st_l_wrong) s.heap.objs.size f cdv)).units + 9 < cLine := by omega
  exact ⟨_, (qss_cons (qs_setO (i := 1) sc_l_wrong.nd rfl (Or.inl rfl) (qo_lst qa_nil))
      (qss_cons (qs_for PassesOwn.never rfl (qi_rng1 (by rfl) m_range (qa_cons (qp_len (by rfl) m_len (qp_var 0 (pv 0)).b).h qa_nil)) (qg_name 2 (pg_name (i := 2) sc_l_wrong.nd rfl (Or.inr rfl)))
        (qss_one (qs_expr (qh_ext 1 (pv 1) (qo_lc (own := [("_law_far", 3)]) rfl sc_l_wrong.nd (qi_rng2 (by rfl) m_range (qa_cons (qp_add (qp_var 2 (pv 2)).b (qp_int).b).h (qa_cons (qp_len (by rfl) m_len (qp_var 0 (pv 0)).b).h qa_nil))) (blkOk_by (by rfl)) (fun _ _ _ _ _ => (qg_name 3 (pg_name (i := 3) sc_l_wrong.nd rfl (Or.inl rfl)))) (fun _ _ _ _ _ => (qts_one (qt_cmP op_gt os_gt (qp_ix (qp_var 0 (pv 0)).b (qp_var 2 (pv 2)).b (fun _ _ => rfl)).b (qp_ix (qp_var 0 (pv 0)).b (qp_var 3 (pv 3)).b (fun _ _ => rfl)).b (nomark _)))) (fun _ _ _ _ _ => (qh_tup (qa_cons (qp_var 2 (pv 2)).h (qa_cons (qp_var 3 (pv 3)).h qa_nil)))) (by decide))))))
      (qss_one (qs_retV 1 (pv 1)))))⟩
abbrev st_l_exchanged : Stmt := topS 40
theorem sc_l_exchanged : FnScope ["_law_order_here", "_law_near", "_law_far", "_law_found"] ["_law_order_here", "_law_near", "_law_far"] (defScope st_l_exchanged) := ⟨rfl, rfl, rfl, by decide +kernel, rfl, by decide +kernel, by decide +kernel⟩
theorem ok_l_exchanged (F : Fun K "_law_exchanged" "_law_exchanged" st_l_exchanged f fd) (m_list : mg "list" = none) (m_tuple : mg "tuple" = none) : FnG P w K mg base 1 f fd ["_law_order_here", "_law_near", "_law_far"] (spH K T 3 p_l_exchanged) := by
  refine okH F sc_l_exchanged fun cdv A outer s H E hg hr => ?_
  have hu := hr.units; have hu1 : (A.deeper (envOfC "_law_exchanged" (defScope st_l_exchanged) s.heap.objs.size f cdv)).units + 1 < cLine := by omega
  have hu5 : (A.deeper (envOfC "_law_exchanged" (defScope st_l_exchanged) s.heap.objs.size f cdv)).units + 65 < cLine := by have := hr.un; omega
  have hu9 : (A.deeper (envOfC "_law_exchanged" (defScope st_l_exchanged) s.heap.objs.size f cdv)).units + 9 < cLine := by omega
  exact ⟨_, (qss_cons (qs_setO (i := 3) sc_l_exchanged.nd rfl (Or.inl rfl) (qo_list (by rfl) m_list (qp_var 0 (pv 0)).b))
      (qss_cons (qs_asg (qh_tup (qa_cons (qp_ix (qp_var 0 (pv 0)).b (qp_var 2 (pv 2)).b (fun _ _ => rfl)).h (qa_cons (qp_ix (qp_var 0 (pv 0)).b (qp_var 1 (pv 1)).b (fun _ _ => rfl)).h qa_nil))) (qg_tup rfl (qgs_cons (qg_sub 3 (pv 3) (qp_var 1 (pv 1)).h) (qgs_cons (qg_sub 3 (pv 3) (qp_var 2 (pv 2)).h) qgs_nil))))
      (qss_one (qs_ret (qp_tup (by rfl) m_tuple (qb_var 3 (pv 3))).h))))⟩
abbrev st_l_word_order : Stmt := topS 41
theorem sc_l_word_order : FnScope ["_law_word_here", "_law_many", "_law_order_here", "_law_pairs", "_law_letter"] ["_law_word_here", "_law_many"] (defScope st_l_word_order) := ⟨rfl, rfl, rfl, by decide +kernel, rfl, by decide +kernel, by decide +kernel⟩
theorem ok_l_word_order (F : Fun K "_law_word_order" "_law_word_order" st_l_word_order f fd) (k_l_exchanged : Cg P w K mg base 1 "_law_exchanged" ["_law_order_here", "_law_near", "_law_far"] (spH K T 3 p_l_exchanged)) (m_range : mg "range" = none) (m_sorted : mg "sorted" = none) (m_tuple : mg "tuple" = none) : FnG P w K mg base 2 f fd ["_law_word_here", "_law_many"] (spH K T 2 p_l_word_order) := by
  refine okH F sc_l_word_order fun cdv A outer s H E hg hr => ?_
  have hu := hr.units; have hu1 : (A.deeper (envOfC "_law_word_order" (defScope st_l_word_order) s.heap.objs.size f cdv)).units + 1 < cLine := by omega
  have hu5 : (A.deeper (envOfC "_law_word_order" (defScope st_l_word_order) s.heap.objs.size f cdv)).units + 65 < cLine := by have := hr.un; omega
  have hu9 : (A.deeper (envOfC "_law_word_order" (defScope st_l_word_order) s.heap.objs.size f cdv)).units + 9 < cLine := by omega
  exact ⟨_, (qss_cons (qs_par (i := 2) (j := 3) (by rfl) sc_l_word_order.nd rfl rfl (by decide) rfl rfl (qp_tupRg rfl (by rfl) m_tuple (by rfl) m_range (qp_int).b (qp_add (qp_var 1 (pv 1)).b (qp_int).b).b).h.v (qo_lst qa_nil).v (by rfl))
      (qss_cons (qs_for PassesOwn.never rfl (qi_seq (qp_var 0 (pv 0)).h) (qg_name 4 (pg_name (i := 4) sc_l_word_order.nd rfl (Or.inl rfl)))
        (qss_cons (qs_expr (qh_app 3 (nm := default) (pv 3) (qo_sortmh hu9 (by rfl) m_sorted (qo_lst (qa_cons (qp_ix (qp_var 2 (pv 2)).b (qp_sub (qp_var 4 (pv 4)).b (qp_int).b).b (fun _ _ => rfl)).h (qa_cons (qp_ix (qp_var 2 (pv 2)).b (qp_var 4 (pv 4)).b (fun _ _ => rfl)).h qa_nil))).h).h))
      (qss_one (qs_set (i := 2) sc_l_word_order.nd rfl (Or.inl rfl) (qh_call k_l_exchanged hg (hr.mono (by decide)) (by rfl) (qa_cons (qp_var 2 (pv 2)).h (qa_cons (qp_sub (qp_var 4 (pv 4)).b (qp_int).b).h (qa_cons (qp_var 4 (pv 4)).h qa_nil))))))))
      (qss_one (qs_ret (qh_tup (qa_cons (qp_var 2 (pv 2)).h (qa_cons (qh_rel 3 (pv 3)) qa_nil)))))))⟩
abbrev st_l_word : Stmt := topS 42
theorem sc_l_word : FnScope ["_law_pot_here", "_law_many", "_law_most", "_law_turn"] ["_law_pot_here", "_law_many", "_law_most"] (defScope st_l_word) := ⟨rfl, rfl, rfl, by decide +kernel, rfl, by decide +kernel, by decide +kernel⟩
theorem ok_l_word (F : Fun K "_law_word" "_law_word" st_l_word f fd) (k_l_draw : Cg P w K mg base 1 "_law_draw" ["_law_pot_here", "_law_size"] (spPH K T 1 p_l_draw)) (m_range : mg "range" = none) : FnG P w K mg base 2 f fd ["_law_pot_here", "_law_many", "_law_most"] (spPO K T 2 p_l_word) := by
  refine okPO F sc_l_word fun cdv A outer s H E hg hr => ?_
  have hu := hr.units; have hu1 : (A.deeper (envOfC "_law_word" (defScope st_l_word) s.heap.objs.size f cdv)).units + 1 < cLine := by omega
  have hu5 : (A.deeper (envOfC "_law_word" (defScope st_l_word) s.heap.objs.size f cdv)).units + 65 < cLine := by have := hr.un; omega
  have hu9 : (A.deeper (envOfC "_law_word" (defScope st_l_word) s.heap.objs.size f cdv)).units + 9 < cLine := by omega
  exact ⟨_, (qss_cons (qs_if (qt_eqP hu (qp_var 1 (pv 1)).b (qp_int).b)
        (qss_one (qs_retO (qo_lst qa_nil))) qss_nil)
      (qss_one (qs_retO (qo_lc (own := [("_law_turn", 3)]) rfl sc_l_word.nd (qi_rng1 (by rfl) m_range (qa_cons (qh_callP 0 k_l_draw hg (hr.mono (by decide)) (by rfl) (pv 0) (qa_cons (qp_add (qp_var 2 (pv 2)).b (qp_int).b).h qa_nil)) qa_nil)) (blkOk_by (by rfl)) (fun _ _ _ _ _ => (qg_name 3 (pg_name (i := 3) sc_l_word.nd rfl (Or.inl rfl)))) (fun _ _ _ _ _ => qts_nil) (fun _ _ _ _ _ => (qh_add (qp_int).h (qh_callP 0 k_l_draw hg (hr.mono (by decide)) (by rfl) (pv 0) (qa_cons (qp_sub (qp_var 1 (pv 1)).b (qp_int).b).h qa_nil)))) (by decide)))))⟩
abbrev st_l_least_word : Stmt := topS 43
theorem sc_l_least_word : FnScope ["_law_pot_here", "_law_order_here", "_law_found", "_law_at"] ["_law_pot_here", "_law_order_here"] (defScope st_l_least_word) := ⟨rfl, rfl, rfl, by decide +kernel, rfl, by decide +kernel, by decide +kernel⟩
theorem ok_l_least_word (F : Fun K "_law_least_word" "_law_least_word" st_l_least_word f fd) (k_l_wrong : Cg P w K mg base 1 "_law_wrong" ["_law_order_here"] (spO K T 1 p_l_wrong)) (k_l_pick : Cg P w K mg base 2 "_law_pick" ["_law_pot_here", "_law_some"] (spPH K T 1 p_l_pick)) (k_l_exchanged : Cg P w K mg base 1 "_law_exchanged" ["_law_order_here", "_law_near", "_law_far"] (spH K T 3 p_l_exchanged)) (m_len : mg "len" = none) (m_range : mg "range" = none) : FnG P w K mg base 3 f fd ["_law_pot_here", "_law_order_here"] (spPH K T 1 p_l_least_word) := by
  refine okPH F sc_l_least_word fun cdv A outer s H E hg hr => ?_
  have hu := hr.units; have hu1 : (A.deeper (envOfC "_law_least_word" (defScope st_l_least_word) s.heap.objs.size f cdv)).units + 1 < cLine := by omega
  have hu5 : (A.deeper (envOfC "_law_least_word" (defScope st_l_least_word) s.heap.objs.size f cdv)).units + 65 < cLine := by have := hr.un; omega
  have hu9 : (A.deeper (envOfC "_law_least_word" (defScope st_l_least_word) s.heap.objs.size f cdv)).units + 9 < cLine := by omega
  exact ⟨_, (qss_cons (qs_set (i := 2) sc_l_least_word.nd rfl (Or.inl rfl) (qo_lst qa_nil).h)
      (qss_cons (qs_while 1000 PassesOwn.never (qt_neH hu (qo_call k_l_wrong hg (hr.mono (by decide)) (by rfl) (qa_cons (qp_var 1 (pv 1)).h qa_nil)).h (qo_lst qa_nil).h) (qss_cons (qs_set (i := 3) sc_l_least_word.nd rfl (Or.inl rfl) (qh_callP 0 k_l_pick hg (hr.mono (by decide)) (by rfl) (pv 0) (qa_cons (qo_lc (own := [("_law_at", 3)]) rfl sc_l_least_word.nd (qi_rng1 (by rfl) m_range (qa_cons (qp_sub (qp_len (by rfl) m_len (qp_var 1 (pv 1)).b).b (qp_int).b).h qa_nil)) (blkOk_by (by rfl)) (fun _ _ _ _ _ => (qg_name 3 (pg_name (i := 3) sc_l_least_word.nd rfl (Or.inl rfl)))) (fun _ _ _ _ _ => (qts_one (qt_cmP op_gt os_gt (qp_ix (qp_var 1 (pv 1)).b (qp_var 3 (pv 3)).b (fun _ _ => rfl)).b (qp_ix (qp_var 1 (pv 1)).b (qp_add (qp_var 3 (pv 3)).b (qp_int).b).b (fun _ _ => rfl)).b (nomark _)))) (fun _ _ _ _ _ => (qp_var 3 (pv 3)).h) (by decide)).h qa_nil)))
      (qss_cons (qs_set (i := 1) sc_l_least_word.nd rfl (Or.inr rfl) (qh_call k_l_exchanged hg (hr.mono (by decide)) (by rfl) (qa_cons (qp_var 1 (pv 1)).h (qa_cons (qp_var 3 (pv 3)).h (qa_cons (qp_add (qp_var 3 (pv 3)).b (qp_int).b).h qa_nil)))))
      (qss_one (qs_set (i := 2) sc_l_least_word.nd rfl (Or.inl rfl) (qo_catH (qo_lst (qa_cons (qp_add (qp_var 3 (pv 3)).b (qp_int).b).h qa_nil)).h (qp_var 2 (pv 2)).h).h)))))
      (qss_one (qs_ret (qp_var 2 (pv 2)).h))))⟩
abbrev st_l_word_right : Stmt := topS 44
theorem sc_l_word_right : FnScope ["_law_pot_here", "_law_word_here", "_law_many", "_law_passed_here", "_law_stay", "_law_order_here", "_law_pairs", "_law_due", "_law_letter", "_law_up", "_law_later", "_law_at"] ["_law_pot_here", "_law_word_here", "_law_many"] (defScope st_l_word_right) := ⟨rfl, rfl, rfl, by decide +kernel, rfl, by decide +kernel, by decide +kernel⟩
theorem ok_l_word_right (F : Fun K "_law_word_right" "_law_word_right" st_l_word_right f fd) (k_l_passed : Cg P w K mg base 2 "_law_passed" ["_law_pot_here", "_law_order_here"] (spPH K T 1 p_l_passed)) (k_l_word_order : Cg P w K mg base 2 "_law_word_order" ["_law_word_here", "_law_many"] (spH K T 2 p_l_word_order)) (k_word_order : Cg P w K mg base 6 "word_order" ["word", "many"] (spH K T 2 p_word_order)) (k_undone : Cg P w K mg base 5 "undone" ["order"] (spH K T 1 p_undone)) (k_l_draw : Cg P w K mg base 1 "_law_draw" ["_law_pot_here", "_law_size"] (spPH K T 1 p_l_draw)) (k_l_wrong : Cg P w K mg base 1 "_law_wrong" ["_law_order_here"] (spO K T 1 p_l_wrong)) (k_level : Cg P w K mg base 6 "level" ["order"] (spH K T 1 p_level)) (k_is_least : Cg P w K mg base 7 "is_least" ["word", "many"] (spH K T 2 p_is_least)) (kk_is_least : CgK P w K mg base 7 "is_least" ["word", "many"] ["many", "word"] kv2 kv2 (spH K T 2 p_is_least)) (kk_word_order : CgK P w K mg base 6 "word_order" ["word", "many"] ["many", "word"] kv2 kv2 (spH K T 2 p_word_order)) (m_len : mg "len" = none) (m_list : mg "list" = none) (m_range : mg "range" = none) (m_repr : mg "repr" = none) (m_tuple : mg "tuple" = none) : FnG P w K mg base 8 f fd ["_law_pot_here", "_law_word_here", "_law_many"] (spPH K T 2 p_l_word_right) := by
  refine okPH F sc_l_word_right fun cdv A outer s H E hg hr => ?_
  have hu := hr.units; have hu1 : (A.deeper (envOfC "_law_word_right" (defScope st_l_word_right) s.heap.objs.size f cdv)).units + 1 < cLine := by omega
  have hu5 : (A.deeper (envOfC "_law_word_right" (defScope st_l_word_right) s.heap.objs.size f cdv)).units + 65 < cLine := by have := hr.un; omega
  have hu9 : (A.deeper (envOfC "_law_word_right" (defScope st_l_word_right) s.heap.objs.size f cdv)).units + 9 < cLine := by omega
  exact ⟨_, (qss_cons (qs_set (i := 3) sc_l_word_right.nd rfl (Or.inl rfl) (qh_callP 0 k_l_passed hg (hr.mono (by decide)) (by rfl) (pv 0) (qa_cons (qp_var 1 (pv 1)).h qa_nil)))
      (qss_cons (qs_set (i := 4) sc_l_word_right.nd rfl (Or.inl rfl) (qp_repb hg hu9 (by rfl) m_repr (qp_var 3 (pv 3)).b).h)
      (qss_cons (qs_asg (qh_call k_l_word_order hg (hr.mono (by decide)) (by rfl) (qa_cons (qp_var 1 (pv 1)).h (qa_cons (qp_var 2 (pv 2)).h qa_nil))) (qg_tup rfl (qgs_cons (qg_name 5 (pg_name (i := 5) sc_l_word_right.nd rfl (Or.inl rfl))) (qgs_cons (qg_name 6 (pg_name (i := 6) sc_l_word_right.nd rfl (Or.inr rfl))) qgs_nil))))
      (qss_cons (qs_if (qw_or (qt_neMH hu (qh_repb hg hu9 (by rfl) m_repr (qh_call k_word_order hg (hr.mono (by decide)) (by rfl) (qa_cons (qp_var 3 (pv 3)).h (qa_cons (qp_var 2 (pv 2)).h qa_nil)))) (qp_repb hg hu9 (by rfl) m_repr (qp_var 5 (pv 5)).b).h) (qw_or1 (qt_neMH hu (qh_repb hg hu9 (by rfl) m_repr (qh_callK kk_word_order pm2 hg (hr.mono (by decide)) (by rfl) (qk_cons (qp_var 2 (pv 2)).h (qk_cons (qp_var 1 (pv 1)).h qk_nil)))) (qp_repb hg hu9 (by rfl) m_repr (qp_var 5 (pv 5)).b).h))).t
        (qss_one (qs_ret (qp_bl).h)) qss_nil)
      (qss_cons (qs_set (i := 7) sc_l_word_right.nd rfl (Or.inl rfl) (qh_eq hu (qp_len (by rfl) m_len (qp_var 1 (pv 1)).b).h (qh_len (by rfl) m_len (qo_call k_l_wrong hg (hr.mono (by decide)) (by rfl) (qa_cons (qp_var 5 (pv 5)).h qa_nil)).h)))
      (qss_cons (qs_if (qw_or (qt_neMH hu (qh_repb hg hu9 (by rfl) m_repr (qh_call k_is_least hg (hr.mono (by decide)) (by rfl) (qa_cons (qp_var 3 (pv 3)).h (qa_cons (qp_var 2 (pv 2)).h qa_nil)))) (qp_repb hg hu9 (by rfl) m_repr (qp_var 7 (pv 7)).b).h) (qw_or1 (qt_neMH hu (qh_repb hg hu9 (by rfl) m_repr (qh_callK kk_is_least pm2 hg (hr.mono (by decide)) (by rfl) (qk_cons (qp_var 2 (pv 2)).h (qk_cons (qp_tup (by rfl) m_tuple (qp_var 1 (pv 1)).b).h qk_nil)))) (qp_repb hg hu9 (by rfl) m_repr (qp_var 7 (pv 7)).b).h))).t
        (qss_one (qs_ret (qp_bl).h)) qss_nil)
      (qss_cons (qs_if (qt_neH hu (qp_var 7 (pv 7)).h (qh_eq hu (qh_len (by rfl) m_len (qo_lc (own := [("_law_at", 11)]) rfl sc_l_word_right.nd (qi_rng1 (by rfl) m_range (qa_cons (qp_len (by rfl) m_len (qp_var 6 (pv 6)).b).h qa_nil)) (blkOk_by (by rfl)) (fun _ _ _ _ _ => (qg_name 11 (pg_name (i := 11) sc_l_word_right.nd rfl (Or.inl rfl)))) (fun _ _ _ _ _ => (qts_one (qt_inP hu5 (qp_ix (qp_var 6 (pv 6)).b (qp_var 11 (pv 11)).b (fun _ _ => rfl)).b (qp_cut (qp_var 6 (pv 6)).b qpt_none (qpt_some (qp_var 11 (pv 11)).b)).b))) (fun _ _ _ _ _ => (qp_var 11 (pv 11)).h) (by decide)).h) (qp_int).h))
        (qss_one (qs_ret (qp_bl).h)) qss_nil)
      (qss_cons (qs_if (qw_or (qt_neMP hu (qp_repb hg hu9 (by rfl) m_repr (qp_var 3 (pv 3)).b).b (qp_var 4 (pv 4)).b) (qw_or1 (qt_cmH op_gt os_gt (qh_call k_level hg (hr.mono (by decide)) (by rfl) (qa_cons (qp_var 5 (pv 5)).h qa_nil)) (qp_len (by rfl) m_len (qp_var 1 (pv 1)).b).h (nomark _)))).t
        (qss_one (qs_ret (qp_bl).h)) qss_nil)
      (qss_cons (qs_if (qt_neH hu (qh_call k_word_order hg (hr.mono (by decide)) (by rfl) (qa_cons (qp_rev (qp_var 1 (pv 1)).b).h (qa_cons (qp_var 2 (pv 2)).h qa_nil))) (qh_call k_undone hg (hr.mono (by decide)) (by rfl) (qa_cons (qp_var 5 (pv 5)).h qa_nil)))
        (qss_one (qs_ret (qp_bl).h)) qss_nil)
      (qss_cons (qs_if (qw_or (qt_eqP hu (qp_var 2 (pv 2)).b (qp_int).b) (qw_or1 (qt_eqP hu (qp_len (by rfl) m_len (qp_var 1 (pv 1)).b).b (qp_int).b))).t
        (qss_one (qs_ret (qp_bl).h)) qss_nil)
      (qss_cons (qs_set (i := 8) sc_l_word_right.nd rfl (Or.inl rfl) (qh_add (qp_int).h (qh_callP 0 k_l_draw hg (hr.mono (by decide)) (by rfl) (pv 0) (qa_cons (qp_sub (qp_var 2 (pv 2)).b (qp_int).b).h qa_nil))))
      (qss_cons (qs_set (i := 9) sc_l_word_right.nd rfl (Or.inl rfl) (qp_lt (qp_ix (qp_var 5 (pv 5)).b (qp_sub (qp_var 8 (pv 8)).b (qp_int).b).b (fun _ _ => rfl)).b (qp_ix (qp_var 5 (pv 5)).b (qp_var 8 (pv 8)).b (fun _ _ => rfl)).b).h)
      (qss_cons (qs_set (i := 10) sc_l_word_right.nd rfl (Or.inl rfl) (qh_call k_word_order hg (hr.mono (by decide)) (by rfl) (qa_cons (qo_cat (qo_list (by rfl) m_list (qp_var 1 (pv 1)).b) (qo_lst (qa_cons (qp_var 8 (pv 8)).h qa_nil))).h (qa_cons (qp_var 2 (pv 2)).h qa_nil))))
      (qss_one (qs_ret (qh_and (qh_eq hu (qh_call k_level hg (hr.mono (by decide)) (by rfl) (qa_cons (qp_var 10 (pv 10)).h qa_nil)) (qh_add (qh_call k_level hg (hr.mono (by decide)) (by rfl) (qa_cons (qp_var 5 (pv 5)).h qa_nil)) (qh_if (qt_tru (qp_var 9 (pv 9)).b) (qp_int).h (qp_neg (qp_int).b).h))) (qh_one (qh_or (qh_not (qp_var 7 (pv 7)).h) (qh_one (qh_eq hu (qh_call k_is_least hg (hr.mono (by decide)) (by rfl) (qa_cons (qo_catH (qp_var 1 (pv 1)).h (qo_lst (qa_cons (qp_var 8 (pv 8)).h qa_nil)).h).h (qa_cons (qp_var 2 (pv 2)).h qa_nil))) (qp_var 9 (pv 9)).h))))))))))))))))))))⟩
end
end Pv

set_option Elab.async false
set_option linter.all false
set_option maxRecDepth 100000
set_option maxHeartbeats 4000000
namespace Pv
open PySem PySem.Spec PyProof.Rows L2 Lb
section
variable {P : Program} {w : World} {K : PySem.W.Frag} {mg : Str → Option Value} {base : Heap} {T : Addr → Prop} {f : Addr} {fd : FuncData}
abbrev st_l_least_right : Stmt := topS 45
theorem sc_l_least_right : FnScope ["_law_pot_here", "_law_order_here", "_law_many", "_law_drawn", "_law_told", "_law_things", "_law_near", "_law_far"] ["_law_pot_here", "_law_order_here"] (defScope st_l_least_right) := ⟨rfl, rfl, rfl, by decide +kernel, rfl, by decide +kernel, by decide +kernel⟩
theorem ok_l_least_right (F : Fun K "_law_least_right" "_law_least_right" st_l_least_right f fd) (k_a_word : Cg P w K mg base 6 "a_word" ["order"] (spH K T 1 p_a_word)) (k_l_least_word : Cg P w K mg base 3 "_law_least_word" ["_law_pot_here", "_law_order_here"] (spPH K T 1 p_l_least_word)) (k_l_passed : Cg P w K mg base 2 "_law_passed" ["_law_pot_here", "_law_order_here"] (spPH K T 1 p_l_passed)) (k_is_least : Cg P w K mg base 7 "is_least" ["word", "many"] (spH K T 2 p_is_least)) (k_word_order : Cg P w K mg base 6 "word_order" ["word", "many"] (spH K T 2 p_word_order)) (k_l_wrong : Cg P w K mg base 1 "_law_wrong" ["_law_order_here"] (spO K T 1 p_l_wrong)) (k_l_word_order : Cg P w K mg base 2 "_law_word_order" ["_law_word_here", "_law_many"] (spH K T 2 p_l_word_order)) (k_wrong_pairs : Cg P w K mg base 5 "wrong_pairs" ["order"] (spO K T 1 p_wrong_pairs)) (kk_a_word : CgK P w K mg base 6 "a_word" ["order"] ["order"] kv1 kv1 (spH K T 1 p_a_word)) (m_isinstance : mg "isinstance" = none) (m_len : mg "len" = none) (m_list : mg "list" = none) (m_sorted : mg "sorted" = none) : FnG P w K mg base 8 f fd ["_law_pot_here", "_law_order_here"] (spPH K T 1 p_l_least_right) := by
  refine okPH F sc_l_least_right fun cdv A outer s H E hg hr => ?_
  have hu := hr.units; have hu1 : (A.deeper (envOfC "_law_least_right" (defScope st_l_least_right) s.heap.objs.size f cdv)).units + 1 < cLine := by omega
  have hu5 : (A.deeper (envOfC "_law_least_right" (defScope st_l_least_right) s.heap.objs.size f cdv)).units + 65 < cLine := by have := hr.un; omega
  have hu9 : (A.deeper (envOfC "_law_least_right" (defScope st_l_least_right) s.heap.objs.size f cdv)).units + 9 < cLine := by omega
  exact ⟨_, (qss_cons (qs_set (i := 2) sc_l_least_right.nd rfl (Or.inl rfl) (qp_len (by rfl) m_len (qp_var 1 (pv 1)).b).h)
      (qss_cons (qs_par (i := 3) (j := 4) (by rfl) sc_l_least_right.nd rfl rfl (by decide) rfl rfl (qh_callP 0 k_l_least_word hg (hr.mono (by decide)) (by rfl) (pv 0) (qa_cons (qp_var 1 (pv 1)).h qa_nil)).v (qh_call k_a_word hg (hr.mono (by decide)) (by rfl) (qa_cons (qh_callP 0 k_l_passed hg (hr.mono (by decide)) (by rfl) (pv 0) (qa_cons (qp_var 1 (pv 1)).h qa_nil)) qa_nil)).v (by rfl))
      (qss_cons (qs_if (qw_or (qt_not (qt_tru (qp_isi "list" (by rfl) m_isinstance (qp_var 4 (pv 4)).b (by rfl) m_list (by decide +kernel)).b)) (qw_or (qt_neH hu (qp_len (by rfl) m_len (qp_var 4 (pv 4)).b).h (qh_len (by rfl) m_len (qo_call k_l_wrong hg (hr.mono (by decide)) (by rfl) (qa_cons (qp_var 1 (pv 1)).h qa_nil)).h)) (qw_or1 (qt_neH hu (qh_ix (qh_call k_l_word_order hg (hr.mono (by decide)) (by rfl) (qa_cons (qp_var 4 (pv 4)).h (qa_cons (qp_var 2 (pv 2)).h qa_nil))) (qp_int).h (fun _ _ => rfl)) (qp_var 1 (pv 1)).h)))).t
        (qss_one (qs_ret (qp_bl).h)) qss_nil)
      (qss_cons (qs_if (qw_or (qt_notB (qh_call k_is_least hg (hr.mono (by decide)) (by rfl) (qa_cons (qp_var 3 (pv 3)).h (qa_cons (qp_var 2 (pv 2)).h qa_nil))) (qp_bl).h) (qw_or (qt_notB (qh_call k_is_least hg (hr.mono (by decide)) (by rfl) (qa_cons (qp_var 4 (pv 4)).h (qa_cons (qp_var 2 (pv 2)).h qa_nil))) (qp_bl).h) (qw_or1 (qt_neH hu (qh_call k_word_order hg (hr.mono (by decide)) (by rfl) (qa_cons (qp_var 3 (pv 3)).h (qa_cons (qp_var 2 (pv 2)).h qa_nil))) (qp_var 1 (pv 1)).h)))).t
        (qss_one (qs_ret (qp_bl).h)) qss_nil)
      (qss_cons (qs_set (i := 5) sc_l_least_right.nd rfl (Or.inl rfl) (qo_sortmh hu9 (by rfl) m_sorted (qo_lc (own := [("_law_near", 6), ("_law_far", 7)]) rfl sc_l_least_right.nd (qi_seq (qo_call k_wrong_pairs hg (hr.mono (by decide)) (by rfl) (qa_cons (qp_var 1 (pv 1)).h qa_nil)).h) (blkOk_by (by rfl)) (fun _ _ _ _ _ => (qg_tup rfl (qgs_cons (qg_name 6 (pg_name (i := 6) sc_l_least_right.nd rfl (Or.inl rfl))) (qgs_cons (qg_name 7 (pg_name (i := 7) sc_l_least_right.nd rfl (Or.inl rfl))) qgs_nil)))) (fun _ _ _ _ _ => qts_nil) (fun _ _ _ _ _ => (qo_sortmh hu9 (by rfl) m_sorted (qo_lst (qa_cons (qp_ix (qp_var 1 (pv 1)).b (qp_var 6 (pv 6)).b (fun _ _ => rfl)).h (qa_cons (qp_ix (qp_var 1 (pv 1)).b (qp_var 7 (pv 7)).b (fun _ _ => rfl)).h qa_nil))).h).h) (by decide)).h).h)
      (qss_cons (qs_if (qt_neH hu (qo_sortmh hu9 (by rfl) m_sorted (qh_ix (qh_call k_l_word_order hg (hr.mono (by decide)) (by rfl) (qa_cons (qp_var 3 (pv 3)).h (qa_cons (qp_var 2 (pv 2)).h qa_nil))) (qp_int).h (fun _ _ => rfl))).h (qp_var 5 (pv 5)).h)
        (qss_one (qs_ret (qp_bl).h)) qss_nil)
      (qss_cons (qs_if (qw_and (qt_cmP op_gt os_gt (qp_var 2 (pv 2)).b (qp_int).b (nomark _)) (qw_and (qt_cmP op_lt os_lt (qp_len (by rfl) m_len (qp_var 3 (pv 3)).b).b (qp_int).b (nomark _)) (qw_and1 (qt_notB (qh_call k_is_least hg (hr.mono (by decide)) (by rfl) (qa_cons (qo_catH (qp_var 3 (pv 3)).h (qo_lst (qa_cons (qp_int).h (qa_cons (qp_int).h qa_nil))).h).h (qa_cons (qp_var 2 (pv 2)).h qa_nil))) (qp_bl).h)))).t
        (qss_one (qs_ret (qp_bl).h)) qss_nil)
      (qss_cons (qs_set (i := 4) sc_l_least_right.nd rfl (Or.inl rfl) (qh_callK kk_a_word pm1 hg (hr.mono (by decide)) (by rfl) (qk_cons (qp_var 1 (pv 1)).h qk_nil)))
      (qss_one (qs_ret (qh_and (qh_eq hu (qh_call k_word_order hg (hr.mono (by decide)) (by rfl) (qa_cons (qp_var 4 (pv 4)).h (qa_cons (qp_var 2 (pv 2)).h qa_nil))) (qp_var 1 (pv 1)).h) (qh_one (qh_eq hu (qh_ix (qh_call k_l_word_order hg (hr.mono (by decide)) (by rfl) (qa_cons (qp_var 4 (pv 4)).h (qa_cons (qp_var 2 (pv 2)).h qa_nil))) (qp_int).h (fun _ _ => rfl)) (qp_var 1 (pv 1)).h)))))))))))))⟩
abbrev st_l_behind_right : Stmt := topS 46
theorem sc_l_behind_right : FnScope ["_law_pot_here", "_law_many", "_law_one", "_law_two", "_law_both"] ["_law_pot_here", "_law_many"] (defScope st_l_behind_right) := ⟨rfl, rfl, rfl, by decide +kernel, rfl, by decide +kernel, by decide +kernel⟩
theorem ok_l_behind_right (F : Fun K "_law_behind_right" "_law_behind_right" st_l_behind_right f fd) (k_one_behind : Cg P w K mg base 6 "one_behind" ["order", "other"] (spH K T 2 p_one_behind)) (k_l_word : Cg P w K mg base 2 "_law_word" ["_law_pot_here", "_law_many", "_law_most"] (spPO K T 2 p_l_word)) (k_word_order : Cg P w K mg base 6 "word_order" ["word", "many"] (spH K T 2 p_word_order)) : FnG P w K mg base 7 f fd ["_law_pot_here", "_law_many"] (spPH K T 1 p_l_behind_right) := by
  refine okPH F sc_l_behind_right fun cdv A outer s H E hg hr => ?_
  have hu := hr.units; have hu1 : (A.deeper (envOfC "_law_behind_right" (defScope st_l_behind_right) s.heap.objs.size f cdv)).units + 1 < cLine := by omega
  have hu5 : (A.deeper (envOfC "_law_behind_right" (defScope st_l_behind_right) s.heap.objs.size f cdv)).units + 65 < cLine := by have := hr.un; omega
  have hu9 : (A.deeper (envOfC "_law_behind_right" (defScope st_l_behind_right) s.heap.objs.size f cdv)).units + 9 < cLine := by omega
  exact ⟨_, (qss_cons (qs_par (i := 2) (j := 3) (by rfl) sc_l_behind_right.nd rfl rfl (by decide) rfl rfl (qo_callP 0 k_l_word hg (hr.mono (by decide)) (by rfl) (pv 0) (qa_cons (qp_var 1 (pv 1)).h (qa_cons (qp_int).h qa_nil))).h.v (qo_callP 0 k_l_word hg (hr.mono (by decide)) (by rfl) (pv 0) (qa_cons (qp_var 1 (pv 1)).h (qa_cons (qp_int).h qa_nil))).h.v (by rfl))
      (qss_cons (qs_set (i := 4) sc_l_behind_right.nd rfl (Or.inl rfl) (qh_call k_one_behind hg (hr.mono (by decide)) (by rfl) (qa_cons (qh_call k_word_order hg (hr.mono (by decide)) (by rfl) (qa_cons (qp_var 2 (pv 2)).h (qa_cons (qp_var 1 (pv 1)).h qa_nil))) (qa_cons (qh_call k_word_order hg (hr.mono (by decide)) (by rfl) (qa_cons (qp_var 3 (pv 3)).h (qa_cons (qp_var 1 (pv 1)).h qa_nil))) qa_nil))))
      (qss_one (qs_ret (qh_eq hu (qh_call k_word_order hg (hr.mono (by decide)) (by rfl) (qa_cons (qo_catB (qp_var 2 (pv 2)).b (qp_var 3 (pv 3)).b).h (qa_cons (qp_var 1 (pv 1)).h qa_nil))) (qp_var 4 (pv 4)).h)))))⟩
abbrev st_l_right : Stmt := topS 47
theorem sc_l_right : FnScope ["_law_pot_here", "_law_many", "_law_word_here", "_law_order_here"] ["_law_pot_here"] (defScope st_l_right) := ⟨rfl, rfl, rfl, by decide +kernel, rfl, by decide +kernel, by decide +kernel⟩
theorem ok_l_right (F : Fun K "_law_right" "_law_right" st_l_right f fd) (k_l_draw : Cg P w K mg base 1 "_law_draw" ["_law_pot_here", "_law_size"] (spPH K T 1 p_l_draw)) (k_l_word : Cg P w K mg base 2 "_law_word" ["_law_pot_here", "_law_many", "_law_most"] (spPO K T 2 p_l_word)) (k_l_order : Cg P w K mg base 2 "_law_order" ["_law_pot_here", "_law_many"] (spPH K T 1 p_l_order)) (k_l_least_right : Cg P w K mg base 8 "_law_least_right" ["_law_pot_here", "_law_order_here"] (spPH K T 1 p_l_least_right)) (k_l_behind_right : Cg P w K mg base 7 "_law_behind_right" ["_law_pot_here", "_law_many"] (spPH K T 1 p_l_behind_right)) (k_l_word_right : Cg P w K mg base 8 "_law_word_right" ["_law_pot_here", "_law_word_here", "_law_many"] (spPH K T 2 p_l_word_right)) (k_l_least_word : Cg P w K mg base 3 "_law_least_word" ["_law_pot_here", "_law_order_here"] (spPH K T 1 p_l_least_word)) : FnG P w K mg base 9 f fd ["_law_pot_here"] (spPH K T 0 p_l_right) := by
  refine okPH F sc_l_right fun cdv A outer s H E hg hr => ?_
  have hu := hr.units; have hu1 : (A.deeper (envOfC "_law_right" (defScope st_l_right) s.heap.objs.size f cdv)).units + 1 < cLine := by omega
  have hu5 : (A.deeper (envOfC "_law_right" (defScope st_l_right) s.heap.objs.size f cdv)).units + 65 < cLine := by have := hr.un; omega
  have hu9 : (A.deeper (envOfC "_law_right" (defScope st_l_right) s.heap.objs.size f cdv)).units + 9 < cLine := by omega
  exact ⟨_, (qss_cons (qs_set (i := 1) sc_l_right.nd rfl (Or.inl rfl) (qh_add (qp_int).h (qh_callP 0 k_l_draw hg (hr.mono (by decide)) (by rfl) (pv 0) (qa_cons (qp_int).h qa_nil))))
      (qss_cons (qs_par (i := 2) (j := 3) (by rfl) sc_l_right.nd rfl rfl (by decide) rfl rfl (qo_callP 0 k_l_word hg (hr.mono (by decide)) (by rfl) (pv 0) (qa_cons (qp_var 1 (pv 1)).h (qa_cons (qp_int).h qa_nil))).h.v (qh_callP 0 k_l_order hg (hr.mono (by decide)) (by rfl) (pv 0) (qa_cons (qp_var 1 (pv 1)).h qa_nil)).v (by rfl))
      (qss_cons (qs_if (qw_or (qt_not (qt_val (qh_callP 0 k_l_word_right hg (hr.mono (by decide)) (by rfl) (pv 0) (qa_cons (qp_var 2 (pv 2)).h (qa_cons (qp_var 1 (pv 1)).h qa_nil))))) (qw_or1 (qt_not (qt_val (qh_callP 0 k_l_word_right hg (hr.mono (by decide)) (by rfl) (pv 0) (qa_cons (qh_callP 0 k_l_least_word hg (hr.mono (by decide)) (by rfl) (pv 0) (qa_cons (qp_var 3 (pv 3)).h qa_nil)) (qa_cons (qp_var 1 (pv 1)).h qa_nil))))))).t
        (qss_one (qs_ret (qp_bl).h)) qss_nil)
      (qss_one (qs_ret (qh_and (qh_callP 0 k_l_least_right hg (hr.mono (by decide)) (by rfl) (pv 0) (qa_cons (qp_var 3 (pv 3)).h qa_nil)) (qh_one (qh_callP 0 k_l_behind_right hg (hr.mono (by decide)) (by rfl) (pv 0) (qa_cons (qp_var 1 (pv 1)).h qa_nil)))))))))⟩
abbrev st_law : Stmt := topS 48
theorem sc_law : FnScope ["_law_script", "_law_k"] ["_law_script"] (defScope st_law) := ⟨rfl, rfl, rfl, by decide +kernel, rfl, by decide +kernel, by decide +kernel⟩
theorem ok_law (F : Fun K "law" "law" st_law f fd) (k_l_right : Cg P w K mg base 9 "_law_right" ["_law_pot_here"] (spPH K T 0 p_l_right)) (k_l_pot : Cg P w K mg base 1 "_law_pot" ["_law_script", "_law_k"] (spO K T 2 p_l_pot)) (m_all : mg "all" = none) (m_len : mg "len" = none) (m_max : mg "max" = none) (m_min : mg "min" = none) (m_range : mg "range" = none) : FnG P w K mg base 10 f fd ["_law_script"] (spH K T 1 p_law) := by
  refine okH F sc_law fun cdv A outer s H E hg hr => ?_
  have hu := hr.units; have hu1 : (A.deeper (envOfC "law" (defScope st_law) s.heap.objs.size f cdv)).units + 1 < cLine := by omega
  have hu5 : (A.deeper (envOfC "law" (defScope st_law) s.heap.objs.size f cdv)).units + 65 < cLine := by have := hr.un; omega
  have hu9 : (A.deeper (envOfC "law" (defScope st_law) s.heap.objs.size f cdv)).units + 9 < cLine := by omega
  exact ⟨_, (qss_one (qs_ret (qh_all rfl (by rfl) m_all (qo_lc (own := [("_law_k", 1)]) rfl sc_law.nd (qi_rng1 (by rfl) m_range (qa_cons (qp_max2 rfl (by rfl) m_max (qp_int).b (qp_min2 rfl (by rfl) m_min (qp_int).b (qp_len (by rfl) m_len (qp_var 0 (pv 0)).b).b).b).h qa_nil)) (blkOk_by (by rfl)) (fun _ _ _ _ _ => (qg_name 1 (pg_name (i := 1) sc_law.nd rfl (Or.inl rfl)))) (fun _ _ _ _ _ => qts_nil) (fun _ _ _ _ _ => (qh_callE k_l_right hg (hr.mono (by decide)) (by rfl) (qo_call k_l_pot hg (hr.mono (by decide)) (by rfl) (qa_cons (qp_var 0 (pv 0)).h (qa_cons (qp_var 1 (pv 1)).h qa_nil))) qa_nil)) (by decide)).h)))⟩
end
end Pv

set_option Elab.async false
set_option linter.all false
set_option maxRecDepth 100000
set_option maxHeartbeats 1000000
namespace Pv
open PySem PySem.Spec PyProof.Rows L2 Lb
/-! ### from a pure law to the law -/
def spLaw (K : PySem.W.Frag) (T : Addr → Prop) : Sp := fun vs H Q _ => ∃ (a : Addr) (ns : List Int), vs = [.ref a] ∧ SqL K H a (ns.map V.int) ∧ ns.length ≤ 63 ∧ (∀ t, T t → GxR.TabG H t) ∧ ∀ H', Q (.bl true) H'
theorem dpa_intsM {K : PySem.W.Frag} {g : Hp} : ∀ ns : List Int, DpAll K g (ns.map V.int) (ns.map PyData.int)
  | [] => .nil
  | n :: ns => .cons (.int n) (dpa_intsM ns)
section
variable {P : Program} {w : World} {K : PySem.W.Frag} {mg : Str → Option Value} {base : Heap} {k n : Nat} {f : Addr} {fd : FuncData} {ps : List Str} {sp sp' : Sp} {T : Addr → Prop}
theorem fng_too (F : FnG P w K mg base k f fd ps sp) (h : ∀ vs H Q E, sp' vs H Q E → sp vs H Q E) : FnG P w K mg base k f fd ps sp' :=
  ⟨fun vs H Q E q => F.len vs H Q E (h _ _ _ _ q), fun A outer s H args us vs Q E hg hr e0 hb r q => F.run A outer s H args us vs Q E hg hr e0 hb r (h _ _ _ _ q)⟩
theorem law_of {p : List D → Option D} (F : FnG P w K mg base k f fd ps (spH K T 1 p)) (hp : ∀ ns : List Int, ns.length ≤ 63 → p [.list (ns.map .int)] = some (.bool true)) : FnG P w K mg base k f fd ps (spLaw K T)   := fng_too F fun vs H Q E h => by
  obtain ⟨a, ns, rfl, hs, hn, ht, q⟩ := h
  suffices H1 : ∃ g, Pre K T g H ∧ SqL K g a (ns.map V.int) by
    obtain ⟨g, pr, s2⟩ := H1
    refine ⟨g, _, _, pr, rfl, .cons (.lst s2 (dpa_intsM ns)) .nil, hp ns hn, fun v g' H' _ x => ?_⟩
    cases x
    exact q H'
  rcases hs with (e | ⟨o, e⟩) | hk
  · refine ⟨fun q => if q = a then some (.lst (ns.map V.int)) else none, ⟨ht, fun t z => ?_, fun q u e2 => ?_, fun q u e2 => ?_⟩, .inl (.inl (by simp))⟩
    · obtain ⟨ps, e3, _⟩ := ht t z
      by_cases c : t = a
      · subst c
        rw [e] at e3
        cases e3
      · simp [c]
    · by_cases c : q = a
      · subst c
        rw [if_pos rfl] at e2
        cases e2
        exact e
      · rw [if_neg c] at e2
        cases e2
    · by_cases c : q = a
      · subst c
        rw [if_pos rfl] at e2
        cases e2
        trivial
      · rw [if_neg c] at e2
        cases e2
  · refine ⟨fun q => if q = a then some (.frz o (.lst (ns.map V.int))) else none, ⟨ht, fun t z => ?_, fun q u e2 => ?_, fun q u e2 => ?_⟩, .inl (.inr ⟨o, by simp⟩)⟩
    · obtain ⟨ps, e3, _⟩ := ht t z
      by_cases c : t = a
      · subst c
        rw [e] at e3
        cases e3
      · simp [c]
    · by_cases c : q = a
      · subst c
        rw [if_pos rfl] at e2
        cases e2
        exact e
      · rw [if_neg c] at e2
        cases e2
    · by_cases c : q = a
      · subst c
        rw [if_pos rfl] at e2
        cases e2
        trivial
      · rw [if_neg c] at e2
        cases e2
  · exact ⟨fun _ => none, ⟨ht, fun _ _ => rfl, fun _ _ e => (by cases e), fun _ _ e => (by cases e)⟩, .inr hk⟩
end
/-! ### written tuples -/
def ktB (K : PySem.W.Frag) : Bool := K.all fun p => match p.2.cls with
  | .type n => !(n == "tuple") || p.2.dict.isNone
  | _ => true
theorem kt_of {K : PySem.W.Frag} (h : ktB K = true) : KT K := fun a o e c => by
  have m : (a, o) ∈ K := by
    unfold ktB at h
    clear h
    induction K with
    | nil => cases e
    | cons p r ih =>
      obtain ⟨b, u⟩ := p
      rw [List.lookup_cons] at e
      split at e
      · rename_i z
        have : a = b := by simpa using z
        cases e
        subst this
        exact .head _
      · exact .tail _ (ih e)
  have z := List.all_eq_true.mp h _ m
  simp only [c] at z
  simpa using z
theorem dp_ktup {K : PySem.W.Frag} {g : Hp} {a : Addr} {od : Option Addr} {its : Array Value} {n : Nat} {sl : Array (Option Value)} {xs : List V} {ds : List D} (l : K.lookup a = some ⟨.type "tuple", od, .seq its n, sl⟩) (sz : its.size ≤ sizeLine) (v : Vals xs its.toList) (d : DpAll K g xs ds) : Dp K g (.ref a) (.tuple ds) := .tup (.inr ⟨_, _, _, l, rfl, rfl, sz, v⟩) d
section
variable {K : PySem.W.Frag} {mg : Str → Option Value} {h : Heap} {x : Str} {st : Stmt} {ps : List Str} {f : Addr} {fd : FuncData} {oc : Value} {od an : Option Addr} {osl : Array (Option Value)} {kV doc pm cdv ct : Value}
theorem kb_one {p : Str} (F : Fun K x x st f fd)
    (b : ∀ (kV doc pm : Value) (an : Option Addr) (cdv ct a : Value), bindArgs (PySem.W.fnOf x x (defArgs st) (defBody st) (defScope st) .none kV doc pm an cdv ct) ⟨[], [(p, a)]⟩ = pure [(p, a)]) : KBinds K fd [p] [p] kv1 kv1 := by
  obtain ⟨oc, od, kV, doc, pm, an, cdv, ct, osl, rfl, lk, hcd⟩ := F.ex
  exact ⟨fun s us ws _ hl => match us, ws, hl with
    | [], [a], _ => .of_eq (b kV doc pm an cdv ct a), kv1_rel⟩
theorem kb_two {p r : Str} (F : Fun K x x st f fd)
    (b : ∀ (kV doc pm : Value) (an : Option Addr) (cdv ct a c : Value), bindArgs (PySem.W.fnOf x x (defArgs st) (defBody st) (defScope st) .none kV doc pm an cdv ct) ⟨[], [(r, a), (p, c)]⟩ = pure [(p, c), (r, a)]) : KBinds K fd [p, r] [r, p] kv2 kv2 := by
  obtain ⟨oc, od, kV, doc, pm, an, cdv, ct, osl, rfl, lk, hcd⟩ := F.ex
  exact ⟨fun s us ws _ hl => match us, ws, hl with
    | [], [a, c], _ => .of_eq (b kV doc pm an cdv ct a c), kv2_rel⟩
theorem kb_three {p r t : Str} (F : Fun K x x st f fd)
    (b : ∀ (kV doc pm : Value) (an : Option Addr) (cdv ct a c d : Value), bindArgs (PySem.W.fnOf x x (defArgs st) (defBody st) (defScope st) .none kV doc pm an cdv ct) ⟨[], [(t, a), (r, c), (p, d)]⟩ = pure [(p, d), (r, c), (t, a)]) : KBinds K fd [p, r, t] [t, r, p] kv3 kv3 := by
  obtain ⟨oc, od, kV, doc, pm, an, cdv, ct, osl, rfl, lk, hcd⟩ := F.ex
  exact ⟨fun s us ws _ hl => match us, ws, hl with
    | [], [a, c, d], _ => .of_eq (b kV doc pm an cdv ct a c d), kv3_rel⟩
end
end Pv

set_option Elab.async false
set_option linter.all false
set_option maxRecDepth 100000
set_option maxHeartbeats 8000000
namespace Pv
open PySem PySem.Spec PyProof.Rows L2 Lb

section
variable {K : PySem.W.Frag} {mg : Str → Option Value} {h : Heap} {x : Str} {st : Stmt} {ps : List Str} {f : Addr} {oc : Value} {od an : Option Addr} {osl : Array (Option Value)} {kV doc pm cdv ct : Value}
theorem df_mk (X : K.In h) (G : h.Ns mainGlobals mg)
    (b : ∀ (kV doc pm : Value) (an : Option Addr) (cdv ct : Value) (us : List Value), us.length = ps.length → bindArgs (PySem.W.fnOf x x (defArgs st) (defBody st) (defScope st) .none kV doc pm an cdv ct) ⟨us, []⟩ = pure (ps.zip us))
    (a : PySem.W.nsIn K mainGlobals x = some (some (.ref f))) (l : K.lookup f = some ⟨oc, od, .func (PySem.W.fnOf x x (defArgs st) (defBody st) (defScope st) .none kV doc pm an cdv ct), osl⟩) (c : PySem.W.codeIn K cdv x = true) (k : PySem.W.keepIn K (.ref f) = true) :
    Df K mg x st ps f (PySem.W.fnOf x x (defArgs st) (defBody st) (defScope st) .none kV doc pm an cdv ct) := ⟨fun_mk l c k, PySem.W.mg_of X G a, (fun_mk l c k).binds b⟩
end
section
variable {P : Program} {w : World} {K : PySem.W.Frag} {mg : Str → Option Value} {base : Heap} {c1 c2 t1 t2 : Addr}
/-- the code tables -/
def Ts (t1 t2 : Addr) : Addr → Prop := fun b => b = t1 ∨ b = t2
theorem law_fn {f_is_order f_are_within_bounds f_is_list f_is_integer f_is_within_bounds f_check_order f_check_orders f_check_number f_check_many f_swapped f_wrong_pairs f_level f_undone f_one_behind f_falls f_is_word f_check_word f_word_order f_is_least f_a_word f_l_pot f_l_draw f_l_pick f_l_order f_l_passed f_l_wrong f_l_exchanged f_l_word_order f_l_word f_l_least_word f_l_word_right f_l_least_right f_l_behind_right f_l_right f_law : Addr} {d_is_order d_are_within_bounds d_is_list d_is_integer d_is_within_bounds d_check_order d_check_orders d_check_number d_check_many d_swapped d_wrong_pairs d_level d_undone d_one_behind d_falls d_is_word d_check_word d_word_order d_is_least d_a_word d_l_pot d_l_draw d_l_pick d_l_order d_l_passed d_l_wrong d_l_exchanged d_l_word_order d_l_word d_l_least_word d_l_word_right d_l_least_right d_l_behind_right d_l_right d_law : FuncData}
    (o1 : d_is_order.code = .ref c1) (T1 : GxR.TabB base mg c1 t1) (o2 : d_are_within_bounds.code = .ref c2) (T2 : GxR.TabB base mg c2 t2)
    (m_abs : mg "abs" = none) (m_all : mg "all" = none) (m_bool : mg "bool" = none) (m_divmod : mg "divmod" = none) (m_int : mg "int" = none) (m_isinstance : mg "isinstance" = none) (m_len : mg "len" = none) (m_list : mg "list" = none) (m_max : mg "max" = none) (m_min : mg "min" = none) (m_range : mg "range" = none) (m_repr : mg "repr" = none) (m_sorted : mg "sorted" = none) (m_tuple : mg "tuple" = none) (N : ∃ t, mg "MOST_THINGS" = some (.int 9 t))
    {v_MOST_THINGS : V} (c_MOST_THINGS : CGl mg K "MOST_THINGS" v_MOST_THINGS (.int 9)) {v_MOST_LETTERS : V} (c_MOST_LETTERS : CGl mg K "MOST_LETTERS" v_MOST_LETTERS (.int 40)) (kt : KT K)
    (D_is_order : Df K mg "is_order" Lb.s_is_order ["value"] f_is_order d_is_order)
    (D_are_within_bounds : Df K mg "are_within_bounds" Lb.s_awb ["value", "low", "high"] f_are_within_bounds d_are_within_bounds)
    (D_is_list : Df K mg "is_list" Lb.s_is_list ["value"] f_is_list d_is_list)
    (D_is_integer : Df K mg "is_integer" st_is_integer ["value"] f_is_integer d_is_integer)
    (D_is_within_bounds : Df K mg "is_within_bounds" st_is_within_bounds ["value", "low", "high"] f_is_within_bounds d_is_within_bounds)
    (D_check_order : Df K mg "check_order" st_check_order ["order"] f_check_order d_check_order)
    (D_check_orders : Df K mg "check_orders" st_check_orders ["order", "other"] f_check_orders d_check_orders)
    (D_check_number : Df K mg "check_number" st_check_number ["value", "low", "high"] f_check_number d_check_number)
    (D_check_many : Df K mg "check_many" st_check_many ["many"] f_check_many d_check_many)
    (D_swapped : Df K mg "swapped" st_swapped ["order", "first", "second"] f_swapped d_swapped)
    (D_wrong_pairs : Df K mg "wrong_pairs" st_wrong_pairs ["order"] f_wrong_pairs d_wrong_pairs)
    (D_level : Df K mg "level" st_level ["order"] f_level d_level)
    (D_undone : Df K mg "undone" st_undone ["order"] f_undone d_undone)
    (D_one_behind : Df K mg "one_behind" st_one_behind ["order", "other"] f_one_behind d_one_behind)
    (D_falls : Df K mg "falls" st_falls ["order"] f_falls d_falls)
    (D_is_word : Df K mg "is_word" st_is_word ["word", "many"] f_is_word d_is_word)
    (D_check_word : Df K mg "check_word" st_check_word ["word", "many"] f_check_word d_check_word)
    (D_word_order : Df K mg "word_order" st_word_order ["word", "many"] f_word_order d_word_order)
    (D_is_least : Df K mg "is_least" st_is_least ["word", "many"] f_is_least d_is_least)
    (D_a_word : Df K mg "a_word" st_a_word ["order"] f_a_word d_a_word)
    (D_l_pot : Df K mg "_law_pot" st_l_pot ["_law_script", "_law_k"] f_l_pot d_l_pot)
    (D_l_draw : Df K mg "_law_draw" st_l_draw ["_law_pot_here", "_law_size"] f_l_draw d_l_draw)
    (D_l_pick : Df K mg "_law_pick" st_l_pick ["_law_pot_here", "_law_some"] f_l_pick d_l_pick)
    (D_l_order : Df K mg "_law_order" st_l_order ["_law_pot_here", "_law_many"] f_l_order d_l_order)
    (D_l_passed : Df K mg "_law_passed" st_l_passed ["_law_pot_here", "_law_order_here"] f_l_passed d_l_passed)
    (D_l_wrong : Df K mg "_law_wrong" st_l_wrong ["_law_order_here"] f_l_wrong d_l_wrong)
    (D_l_exchanged : Df K mg "_law_exchanged" st_l_exchanged ["_law_order_here", "_law_near", "_law_far"] f_l_exchanged d_l_exchanged)
    (D_l_word_order : Df K mg "_law_word_order" st_l_word_order ["_law_word_here", "_law_many"] f_l_word_order d_l_word_order)
    (D_l_word : Df K mg "_law_word" st_l_word ["_law_pot_here", "_law_many", "_law_most"] f_l_word d_l_word)
    (D_l_least_word : Df K mg "_law_least_word" st_l_least_word ["_law_pot_here", "_law_order_here"] f_l_least_word d_l_least_word)
    (D_l_word_right : Df K mg "_law_word_right" st_l_word_right ["_law_pot_here", "_law_word_here", "_law_many"] f_l_word_right d_l_word_right)
    (D_l_least_right : Df K mg "_law_least_right" st_l_least_right ["_law_pot_here", "_law_order_here"] f_l_least_right d_l_least_right)
    (D_l_behind_right : Df K mg "_law_behind_right" st_l_behind_right ["_law_pot_here", "_law_many"] f_l_behind_right d_l_behind_right)
    (D_l_right : Df K mg "_law_right" st_l_right ["_law_pot_here"] f_l_right d_l_right)
    (D_law : Df K mg "law" st_law ["_law_script"] f_law d_law)
    (bkk_is_least : KBinds K d_is_least ["word", "many"] ["many", "word"] kv2 kv2)
    (bkk_word_order : KBinds K d_word_order ["word", "many"] ["many", "word"] kv2 kv2)
    (bkk_a_word : KBinds K d_a_word ["order"] ["order"] kv1 kv1)
    : FnG P w K mg base 10 f_law d_law ["_law_script"] (spLaw K (Ts t1 t2)) := by
  have B : Bl mg := ⟨m_isinstance, m_int, m_bool, m_list, m_tuple, m_len, m_all, m_sorted, m_range⟩
  have io : Io K mg base (Ts t1 t2) c1 f_is_order f_is_integer d_is_order d_is_integer := ⟨D_is_order, o1, ⟨t1, .inl rfl, T1⟩, D_is_integer, N, B⟩
  have w_is_integer : FnG P w K mg base 1 f_is_integer d_is_integer ["value"] (spH K (Ts t1 t2) 1 p_is_integer) := ok_is_integer D_is_integer.fn m_bool m_int m_isinstance
  have k_is_integer : Cg P w K mg base 1 "is_integer" ["value"] (spH K (Ts t1 t2) 1 p_is_integer) := ⟨_, _, w_is_integer, D_is_integer.at_, D_is_integer.fn.kp, D_is_integer.bind⟩
  have w_is_within_bounds : FnG P w K mg base 2 f_is_within_bounds d_is_within_bounds ["value", "low", "high"] (spH K (Ts t1 t2) 3 p_is_within_bounds) := ok_is_within_bounds D_is_within_bounds.fn k_is_integer
  have k_is_within_bounds : Cg P w K mg base 2 "is_within_bounds" ["value", "low", "high"] (spH K (Ts t1 t2) 3 p_is_within_bounds) := ⟨_, _, w_is_within_bounds, D_is_within_bounds.at_, D_is_within_bounds.fn.kp, D_is_within_bounds.bind⟩
  have w_is_order : FnG P w K mg base 3 f_is_order d_is_order ["value"] (spH K (Ts t1 t2) 1 p_is_order) := og_is_order (io.ok.mono (by decide))
  have k_is_order : Cg P w K mg base 3 "is_order" ["value"] (spH K (Ts t1 t2) 1 p_is_order) := ⟨_, _, w_is_order, D_is_order.at_, D_is_order.fn.kp, D_is_order.bind⟩
  have w_check_order : FnG P w K mg base 4 f_check_order d_check_order ["order"] (spH K (Ts t1 t2) 1 p_check_order) := ok_check_order D_check_order.fn k_is_order
  have k_check_order : Cg P w K mg base 4 "check_order" ["order"] (spH K (Ts t1 t2) 1 p_check_order) := ⟨_, _, w_check_order, D_check_order.at_, D_check_order.fn.kp, D_check_order.bind⟩
  have w_check_orders : FnG P w K mg base 5 f_check_orders d_check_orders ["order", "other"] (spH K (Ts t1 t2) 2 p_check_orders) := ok_check_orders D_check_orders.fn k_check_order m_len
  have k_check_orders : Cg P w K mg base 5 "check_orders" ["order", "other"] (spH K (Ts t1 t2) 2 p_check_orders) := ⟨_, _, w_check_orders, D_check_orders.at_, D_check_orders.fn.kp, D_check_orders.bind⟩
  have w_check_number : FnG P w K mg base 3 f_check_number d_check_number ["value", "low", "high"] (spH K (Ts t1 t2) 3 p_check_number) := ok_check_number D_check_number.fn k_is_within_bounds
  have k_check_number : Cg P w K mg base 3 "check_number" ["value", "low", "high"] (spH K (Ts t1 t2) 3 p_check_number) := ⟨_, _, w_check_number, D_check_number.at_, D_check_number.fn.kp, D_check_number.bind⟩
  have w_check_many : FnG P w K mg base 4 f_check_many d_check_many ["many"] (spH K (Ts t1 t2) 1 p_check_many) := ok_check_many D_check_many.fn k_check_number c_MOST_THINGS
  have k_check_many : Cg P w K mg base 4 "check_many" ["many"] (spH K (Ts t1 t2) 1 p_check_many) := ⟨_, _, w_check_many, D_check_many.at_, D_check_many.fn.kp, D_check_many.bind⟩
  have w_swapped : FnG P w K mg base 1 f_swapped d_swapped ["order", "first", "second"] (spH K (Ts t1 t2) 3 p_swapped) := ok_swapped D_swapped.fn m_list m_tuple
  have k_swapped : Cg P w K mg base 1 "swapped" ["order", "first", "second"] (spH K (Ts t1 t2) 3 p_swapped) := ⟨_, _, w_swapped, D_swapped.at_, D_swapped.fn.kp, D_swapped.bind⟩
  have w_wrong_pairs : FnG P w K mg base 5 f_wrong_pairs d_wrong_pairs ["order"] (spO K (Ts t1 t2) 1 p_wrong_pairs) := ok_wrong_pairs D_wrong_pairs.fn k_check_order m_len m_range
  have k_wrong_pairs : Cg P w K mg base 5 "wrong_pairs" ["order"] (spO K (Ts t1 t2) 1 p_wrong_pairs) := ⟨_, _, w_wrong_pairs, D_wrong_pairs.at_, D_wrong_pairs.fn.kp, D_wrong_pairs.bind⟩
  have w_level : FnG P w K mg base 6 f_level d_level ["order"] (spH K (Ts t1 t2) 1 p_level) := ok_level D_level.fn k_wrong_pairs m_len
  have k_level : Cg P w K mg base 6 "level" ["order"] (spH K (Ts t1 t2) 1 p_level) := ⟨_, _, w_level, D_level.at_, D_level.fn.kp, D_level.bind⟩
  have w_undone : FnG P w K mg base 5 f_undone d_undone ["order"] (spH K (Ts t1 t2) 1 p_undone) := ok_undone D_undone.fn k_check_order kt m_len m_range m_tuple
  have k_undone : Cg P w K mg base 5 "undone" ["order"] (spH K (Ts t1 t2) 1 p_undone) := ⟨_, _, w_undone, D_undone.at_, D_undone.fn.kp, D_undone.bind⟩
  have w_one_behind : FnG P w K mg base 6 f_one_behind d_one_behind ["order", "other"] (spH K (Ts t1 t2) 2 p_one_behind) := ok_one_behind D_one_behind.fn k_check_orders m_tuple
  have k_one_behind : Cg P w K mg base 6 "one_behind" ["order", "other"] (spH K (Ts t1 t2) 2 p_one_behind) := ⟨_, _, w_one_behind, D_one_behind.at_, D_one_behind.fn.kp, D_one_behind.bind⟩
  have w_falls : FnG P w K mg base 5 f_falls d_falls ["order"] (spO K (Ts t1 t2) 1 p_falls) := ok_falls D_falls.fn k_check_order m_len m_range
  have k_falls : Cg P w K mg base 5 "falls" ["order"] (spO K (Ts t1 t2) 1 p_falls) := ⟨_, _, w_falls, D_falls.at_, D_falls.fn.kp, D_falls.bind⟩
  have w_are_within_bounds : FnG P w K mg base 3 f_are_within_bounds d_are_within_bounds ["value", "low", "high"] (spH K (Ts t1 t2) 3 p_are_within_bounds) := og_awb ((ok_awb D_are_within_bounds.fn o2 (.inr rfl) T2 D_is_list D_is_within_bounds D_is_integer B).mono (by decide))
  have k_are_within_bounds : Cg P w K mg base 3 "are_within_bounds" ["value", "low", "high"] (spH K (Ts t1 t2) 3 p_are_within_bounds) := ⟨_, _, w_are_within_bounds, D_are_within_bounds.at_, D_are_within_bounds.fn.kp, D_are_within_bounds.bind⟩
  have w_is_word : FnG P w K mg base 4 f_is_word d_is_word ["word", "many"] (spH K (Ts t1 t2) 2 p_is_word) := ok_is_word D_is_word.fn k_is_within_bounds k_are_within_bounds m_len c_MOST_LETTERS c_MOST_THINGS
  have k_is_word : Cg P w K mg base 4 "is_word" ["word", "many"] (spH K (Ts t1 t2) 2 p_is_word) := ⟨_, _, w_is_word, D_is_word.at_, D_is_word.fn.kp, D_is_word.bind⟩
  have w_check_word : FnG P w K mg base 5 f_check_word d_check_word ["word", "many"] (spH K (Ts t1 t2) 2 p_check_word) := ok_check_word D_check_word.fn k_check_many k_is_word
  have k_check_word : Cg P w K mg base 5 "check_word" ["word", "many"] (spH K (Ts t1 t2) 2 p_check_word) := ⟨_, _, w_check_word, D_check_word.at_, D_check_word.fn.kp, D_check_word.bind⟩
  have w_word_order : FnG P w K mg base 6 f_word_order d_word_order ["word", "many"] (spH K (Ts t1 t2) 2 p_word_order) := ok_word_order D_word_order.fn k_check_word k_swapped m_range m_tuple
  have k_word_order : Cg P w K mg base 6 "word_order" ["word", "many"] (spH K (Ts t1 t2) 2 p_word_order) := ⟨_, _, w_word_order, D_word_order.at_, D_word_order.fn.kp, D_word_order.bind⟩
  have w_is_least : FnG P w K mg base 7 f_is_least d_is_least ["word", "many"] (spH K (Ts t1 t2) 2 p_is_least) := ok_is_least D_is_least.fn k_level k_word_order m_len
  have k_is_least : Cg P w K mg base 7 "is_least" ["word", "many"] (spH K (Ts t1 t2) 2 p_is_least) := ⟨_, _, w_is_least, D_is_least.at_, D_is_least.fn.kp, D_is_least.bind⟩
  have w_a_word : FnG P w K mg base 6 f_a_word d_a_word ["order"] (spH K (Ts t1 t2) 1 p_a_word) := ok_a_word D_a_word.fn k_check_order k_falls k_swapped m_tuple
  have k_a_word : Cg P w K mg base 6 "a_word" ["order"] (spH K (Ts t1 t2) 1 p_a_word) := ⟨_, _, w_a_word, D_a_word.at_, D_a_word.fn.kp, D_a_word.bind⟩
  have w_l_pot : FnG P w K mg base 1 f_l_pot d_l_pot ["_law_script", "_law_k"] (spO K (Ts t1 t2) 2 p_l_pot) := ok_l_pot D_l_pot.fn m_abs m_int m_len m_max
  have k_l_pot : Cg P w K mg base 1 "_law_pot" ["_law_script", "_law_k"] (spO K (Ts t1 t2) 2 p_l_pot) := ⟨_, _, w_l_pot, D_l_pot.at_, D_l_pot.fn.kp, D_l_pot.bind⟩
  have w_l_draw : FnG P w K mg base 1 f_l_draw d_l_draw ["_law_pot_here", "_law_size"] (spPH K (Ts t1 t2) 1 p_l_draw) := ok_l_draw D_l_draw.fn m_divmod m_int
  have k_l_draw : Cg P w K mg base 1 "_law_draw" ["_law_pot_here", "_law_size"] (spPH K (Ts t1 t2) 1 p_l_draw) := ⟨_, _, w_l_draw, D_l_draw.at_, D_l_draw.fn.kp, D_l_draw.bind⟩
  have w_l_pick : FnG P w K mg base 2 f_l_pick d_l_pick ["_law_pot_here", "_law_some"] (spPH K (Ts t1 t2) 1 p_l_pick) := ok_l_pick D_l_pick.fn k_l_draw m_len
  have k_l_pick : Cg P w K mg base 2 "_law_pick" ["_law_pot_here", "_law_some"] (spPH K (Ts t1 t2) 1 p_l_pick) := ⟨_, _, w_l_pick, D_l_pick.at_, D_l_pick.fn.kp, D_l_pick.bind⟩
  have w_l_order : FnG P w K mg base 2 f_l_order d_l_order ["_law_pot_here", "_law_many"] (spPH K (Ts t1 t2) 1 p_l_order) := ok_l_order D_l_order.fn k_l_draw m_len m_list m_range m_tuple
  have k_l_order : Cg P w K mg base 2 "_law_order" ["_law_pot_here", "_law_many"] (spPH K (Ts t1 t2) 1 p_l_order) := ⟨_, _, w_l_order, D_l_order.at_, D_l_order.fn.kp, D_l_order.bind⟩
  have w_l_passed : FnG P w K mg base 2 f_l_passed d_l_passed ["_law_pot_here", "_law_order_here"] (spPH K (Ts t1 t2) 1 p_l_passed) := ok_l_passed D_l_passed.fn k_l_draw m_list m_tuple
  have k_l_passed : Cg P w K mg base 2 "_law_passed" ["_law_pot_here", "_law_order_here"] (spPH K (Ts t1 t2) 1 p_l_passed) := ⟨_, _, w_l_passed, D_l_passed.at_, D_l_passed.fn.kp, D_l_passed.bind⟩
  have w_l_wrong : FnG P w K mg base 1 f_l_wrong d_l_wrong ["_law_order_here"] (spO K (Ts t1 t2) 1 p_l_wrong) := ok_l_wrong D_l_wrong.fn m_len m_range
  have k_l_wrong : Cg P w K mg base 1 "_law_wrong" ["_law_order_here"] (spO K (Ts t1 t2) 1 p_l_wrong) := ⟨_, _, w_l_wrong, D_l_wrong.at_, D_l_wrong.fn.kp, D_l_wrong.bind⟩
  have w_l_exchanged : FnG P w K mg base 1 f_l_exchanged d_l_exchanged ["_law_order_here", "_law_near", "_law_far"] (spH K (Ts t1 t2) 3 p_l_exchanged) := ok_l_exchanged D_l_exchanged.fn m_list m_tuple
  have k_l_exchanged : Cg P w K mg base 1 "_law_exchanged" ["_law_order_here", "_law_near", "_law_far"] (spH K (Ts t1 t2) 3 p_l_exchanged) := ⟨_, _, w_l_exchanged, D_l_exchanged.at_, D_l_exchanged.fn.kp, D_l_exchanged.bind⟩
  have w_l_word_order : FnG P w K mg base 2 f_l_word_order d_l_word_order ["_law_word_here", "_law_many"] (spH K (Ts t1 t2) 2 p_l_word_order) := ok_l_word_order D_l_word_order.fn k_l_exchanged m_range m_sorted m_tuple
  have k_l_word_order : Cg P w K mg base 2 "_law_word_order" ["_law_word_here", "_law_many"] (spH K (Ts t1 t2) 2 p_l_word_order) := ⟨_, _, w_l_word_order, D_l_word_order.at_, D_l_word_order.fn.kp, D_l_word_order.bind⟩
  have w_l_word : FnG P w K mg base 2 f_l_word d_l_word ["_law_pot_here", "_law_many", "_law_most"] (spPO K (Ts t1 t2) 2 p_l_word) := ok_l_word D_l_word.fn k_l_draw m_range
  have k_l_word : Cg P w K mg base 2 "_law_word" ["_law_pot_here", "_law_many", "_law_most"] (spPO K (Ts t1 t2) 2 p_l_word) := ⟨_, _, w_l_word, D_l_word.at_, D_l_word.fn.kp, D_l_word.bind⟩
  have w_l_least_word : FnG P w K mg base 3 f_l_least_word d_l_least_word ["_law_pot_here", "_law_order_here"] (spPH K (Ts t1 t2) 1 p_l_least_word) := ok_l_least_word D_l_least_word.fn k_l_wrong k_l_pick k_l_exchanged m_len m_range
  have k_l_least_word : Cg P w K mg base 3 "_law_least_word" ["_law_pot_here", "_law_order_here"] (spPH K (Ts t1 t2) 1 p_l_least_word) := ⟨_, _, w_l_least_word, D_l_least_word.at_, D_l_least_word.fn.kp, D_l_least_word.bind⟩
  have kk_is_least : CgK P w K mg base 7 "is_least" ["word", "many"] ["many", "word"] kv2 kv2 (spH K (Ts t1 t2) 2 p_is_least) := ⟨_, _, w_is_least, D_is_least.at_, D_is_least.fn.kp, bkk_is_least⟩
  have kk_word_order : CgK P w K mg base 6 "word_order" ["word", "many"] ["many", "word"] kv2 kv2 (spH K (Ts t1 t2) 2 p_word_order) := ⟨_, _, w_word_order, D_word_order.at_, D_word_order.fn.kp, bkk_word_order⟩
  have w_l_word_right : FnG P w K mg base 8 f_l_word_right d_l_word_right ["_law_pot_here", "_law_word_here", "_law_many"] (spPH K (Ts t1 t2) 2 p_l_word_right) := ok_l_word_right D_l_word_right.fn k_l_passed k_l_word_order k_word_order k_undone k_l_draw k_l_wrong k_level k_is_least kk_is_least kk_word_order m_len m_list m_range m_repr m_tuple
  have k_l_word_right : Cg P w K mg base 8 "_law_word_right" ["_law_pot_here", "_law_word_here", "_law_many"] (spPH K (Ts t1 t2) 2 p_l_word_right) := ⟨_, _, w_l_word_right, D_l_word_right.at_, D_l_word_right.fn.kp, D_l_word_right.bind⟩
  have kk_a_word : CgK P w K mg base 6 "a_word" ["order"] ["order"] kv1 kv1 (spH K (Ts t1 t2) 1 p_a_word) := ⟨_, _, w_a_word, D_a_word.at_, D_a_word.fn.kp, bkk_a_word⟩
  have w_l_least_right : FnG P w K mg base 8 f_l_least_right d_l_least_right ["_law_pot_here", "_law_order_here"] (spPH K (Ts t1 t2) 1 p_l_least_right) := ok_l_least_right D_l_least_right.fn k_a_word k_l_least_word k_l_passed k_is_least k_word_order k_l_wrong k_l_word_order k_wrong_pairs kk_a_word m_isinstance m_len m_list m_sorted
  have k_l_least_right : Cg P w K mg base 8 "_law_least_right" ["_law_pot_here", "_law_order_here"] (spPH K (Ts t1 t2) 1 p_l_least_right) := ⟨_, _, w_l_least_right, D_l_least_right.at_, D_l_least_right.fn.kp, D_l_least_right.bind⟩
  have w_l_behind_right : FnG P w K mg base 7 f_l_behind_right d_l_behind_right ["_law_pot_here", "_law_many"] (spPH K (Ts t1 t2) 1 p_l_behind_right) := ok_l_behind_right D_l_behind_right.fn k_one_behind k_l_word k_word_order
  have k_l_behind_right : Cg P w K mg base 7 "_law_behind_right" ["_law_pot_here", "_law_many"] (spPH K (Ts t1 t2) 1 p_l_behind_right) := ⟨_, _, w_l_behind_right, D_l_behind_right.at_, D_l_behind_right.fn.kp, D_l_behind_right.bind⟩
  have w_l_right : FnG P w K mg base 9 f_l_right d_l_right ["_law_pot_here"] (spPH K (Ts t1 t2) 0 p_l_right) := ok_l_right D_l_right.fn k_l_draw k_l_word k_l_order k_l_least_right k_l_behind_right k_l_word_right k_l_least_word
  have k_l_right : Cg P w K mg base 9 "_law_right" ["_law_pot_here"] (spPH K (Ts t1 t2) 0 p_l_right) := ⟨_, _, w_l_right, D_l_right.at_, D_l_right.fn.kp, D_l_right.bind⟩
  have w_law : FnG P w K mg base 10 f_law d_law ["_law_script"] (spH K (Ts t1 t2) 1 p_law) := ok_law D_law.fn k_l_right k_l_pot m_all m_len m_max m_min m_range
  have k_law : Cg P w K mg base 10 "law" ["_law_script"] (spH K (Ts t1 t2) 1 p_law) := ⟨_, _, w_law, D_law.at_, D_law.fn.kp, D_law.bind⟩
  exact law_of w_law l_law
end

theorem all_mk {l : PySem.W.OpenLaw} {q : Program} {w : World} {K : PySem.W.Frag} {h : Heap} {mg : Str → Option Value} {fa : Addr} (X : K.In h) (G : h.Ns mainGlobals mg) (hfa : mg "law" = some (.ref fa))
    (hT : ∀ (y : Str) (dr : DefRec) (c P : Addr), (recsOf q).find? (fun e => e.name == y) = some dr → PySem.W.tabIn K y = some (c, P) → PySem.W.CodeHd h c P ∧ h.get? P = some { cls := .none, data := .fields #[] })
    {dr1 dr2 : DefRec} {c1 t1 c2 t2 : Addr} {tN : Tok}
    {fis_order : Addr} {ocis_order kVis_order docis_order pmis_order cdis_order ctis_order : Value} {odis_order anis_order : Option Addr} {slis_order : Array (Option Value)}
    {fare_within_bounds : Addr} {ocare_within_bounds kVare_within_bounds docare_within_bounds pmare_within_bounds cdare_within_bounds ctare_within_bounds : Value} {odare_within_bounds anare_within_bounds : Option Addr} {slare_within_bounds : Array (Option Value)}
    {fis_list : Addr} {ocis_list kVis_list docis_list pmis_list cdis_list ctis_list : Value} {odis_list anis_list : Option Addr} {slis_list : Array (Option Value)}
    {fis_integer : Addr} {ocis_integer kVis_integer docis_integer pmis_integer cdis_integer ctis_integer : Value} {odis_integer anis_integer : Option Addr} {slis_integer : Array (Option Value)}
    {fis_within_bounds : Addr} {ocis_within_bounds kVis_within_bounds docis_within_bounds pmis_within_bounds cdis_within_bounds ctis_within_bounds : Value} {odis_within_bounds anis_within_bounds : Option Addr} {slis_within_bounds : Array (Option Value)}
    {fcheck_order : Addr} {occheck_order kVcheck_order doccheck_order pmcheck_order cdcheck_order ctcheck_order : Value} {odcheck_order ancheck_order : Option Addr} {slcheck_order : Array (Option Value)}
    {fcheck_orders : Addr} {occheck_orders kVcheck_orders doccheck_orders pmcheck_orders cdcheck_orders ctcheck_orders : Value} {odcheck_orders ancheck_orders : Option Addr} {slcheck_orders : Array (Option Value)}
    {fcheck_number : Addr} {occheck_number kVcheck_number doccheck_number pmcheck_number cdcheck_number ctcheck_number : Value} {odcheck_number ancheck_number : Option Addr} {slcheck_number : Array (Option Value)}
    {fcheck_many : Addr} {occheck_many kVcheck_many doccheck_many pmcheck_many cdcheck_many ctcheck_many : Value} {odcheck_many ancheck_many : Option Addr} {slcheck_many : Array (Option Value)}
    {fswapped : Addr} {ocswapped kVswapped docswapped pmswapped cdswapped ctswapped : Value} {odswapped answapped : Option Addr} {slswapped : Array (Option Value)}
    {fwrong_pairs : Addr} {ocwrong_pairs kVwrong_pairs docwrong_pairs pmwrong_pairs cdwrong_pairs ctwrong_pairs : Value} {odwrong_pairs anwrong_pairs : Option Addr} {slwrong_pairs : Array (Option Value)}
    {flevel : Addr} {oclevel kVlevel doclevel pmlevel cdlevel ctlevel : Value} {odlevel anlevel : Option Addr} {sllevel : Array (Option Value)}
    {fundone : Addr} {ocundone kVundone docundone pmundone cdundone ctundone : Value} {odundone anundone : Option Addr} {slundone : Array (Option Value)}
    {fone_behind : Addr} {ocone_behind kVone_behind docone_behind pmone_behind cdone_behind ctone_behind : Value} {odone_behind anone_behind : Option Addr} {slone_behind : Array (Option Value)}
    {ffalls : Addr} {ocfalls kVfalls docfalls pmfalls cdfalls ctfalls : Value} {odfalls anfalls : Option Addr} {slfalls : Array (Option Value)}
    {fis_word : Addr} {ocis_word kVis_word docis_word pmis_word cdis_word ctis_word : Value} {odis_word anis_word : Option Addr} {slis_word : Array (Option Value)}
    {fcheck_word : Addr} {occheck_word kVcheck_word doccheck_word pmcheck_word cdcheck_word ctcheck_word : Value} {odcheck_word ancheck_word : Option Addr} {slcheck_word : Array (Option Value)}
    {fword_order : Addr} {ocword_order kVword_order docword_order pmword_order cdword_order ctword_order : Value} {odword_order anword_order : Option Addr} {slword_order : Array (Option Value)}
    {fis_least : Addr} {ocis_least kVis_least docis_least pmis_least cdis_least ctis_least : Value} {odis_least anis_least : Option Addr} {slis_least : Array (Option Value)}
    {fa_word : Addr} {oca_word kVa_word doca_word pma_word cda_word cta_word : Value} {oda_word ana_word : Option Addr} {sla_word : Array (Option Value)}
    {fl_pot : Addr} {ocl_pot kVl_pot docl_pot pml_pot cdl_pot ctl_pot : Value} {odl_pot anl_pot : Option Addr} {sll_pot : Array (Option Value)}
    {fl_draw : Addr} {ocl_draw kVl_draw docl_draw pml_draw cdl_draw ctl_draw : Value} {odl_draw anl_draw : Option Addr} {sll_draw : Array (Option Value)}
    {fl_pick : Addr} {ocl_pick kVl_pick docl_pick pml_pick cdl_pick ctl_pick : Value} {odl_pick anl_pick : Option Addr} {sll_pick : Array (Option Value)}
    {fl_order : Addr} {ocl_order kVl_order docl_order pml_order cdl_order ctl_order : Value} {odl_order anl_order : Option Addr} {sll_order : Array (Option Value)}
    {fl_passed : Addr} {ocl_passed kVl_passed docl_passed pml_passed cdl_passed ctl_passed : Value} {odl_passed anl_passed : Option Addr} {sll_passed : Array (Option Value)}
    {fl_wrong : Addr} {ocl_wrong kVl_wrong docl_wrong pml_wrong cdl_wrong ctl_wrong : Value} {odl_wrong anl_wrong : Option Addr} {sll_wrong : Array (Option Value)}
    {fl_exchanged : Addr} {ocl_exchanged kVl_exchanged docl_exchanged pml_exchanged cdl_exchanged ctl_exchanged : Value} {odl_exchanged anl_exchanged : Option Addr} {sll_exchanged : Array (Option Value)}
    {fl_word_order : Addr} {ocl_word_order kVl_word_order docl_word_order pml_word_order cdl_word_order ctl_word_order : Value} {odl_word_order anl_word_order : Option Addr} {sll_word_order : Array (Option Value)}
    {fl_word : Addr} {ocl_word kVl_word docl_word pml_word cdl_word ctl_word : Value} {odl_word anl_word : Option Addr} {sll_word : Array (Option Value)}
    {fl_least_word : Addr} {ocl_least_word kVl_least_word docl_least_word pml_least_word cdl_least_word ctl_least_word : Value} {odl_least_word anl_least_word : Option Addr} {sll_least_word : Array (Option Value)}
    {fl_word_right : Addr} {ocl_word_right kVl_word_right docl_word_right pml_word_right cdl_word_right ctl_word_right : Value} {odl_word_right anl_word_right : Option Addr} {sll_word_right : Array (Option Value)}
    {fl_least_right : Addr} {ocl_least_right kVl_least_right docl_least_right pml_least_right cdl_least_right ctl_least_right : Value} {odl_least_right anl_least_right : Option Addr} {sll_least_right : Array (Option Value)}
    {fl_behind_right : Addr} {ocl_behind_right kVl_behind_right docl_behind_right pml_behind_right cdl_behind_right ctl_behind_right : Value} {odl_behind_right anl_behind_right : Option Addr} {sll_behind_right : Array (Option Value)}
    {fl_right : Addr} {ocl_right kVl_right docl_right pml_right cdl_right ctl_right : Value} {odl_right anl_right : Option Addr} {sll_right : Array (Option Value)}
    {flaw : Addr} {oclaw kVlaw doclaw pmlaw cdlaw ctlaw : Value} {odlaw anlaw : Option Addr} {sllaw : Array (Option Value)}
    (ais_order : PySem.W.nsIn K mainGlobals "is_order" = some (some (.ref fis_order))) (lis_order : K.lookup fis_order = some ⟨ocis_order, odis_order, .func (PySem.W.fnOf "is_order" "is_order" (defArgs Lb.s_is_order) (defBody Lb.s_is_order) (defScope Lb.s_is_order) .none kVis_order docis_order pmis_order anis_order cdis_order ctis_order), slis_order⟩) (cis_order : PySem.W.codeIn K cdis_order "is_order" = true) (kis_order : PySem.W.keepIn K (.ref fis_order) = true)
    (aare_within_bounds : PySem.W.nsIn K mainGlobals "are_within_bounds" = some (some (.ref fare_within_bounds))) (lare_within_bounds : K.lookup fare_within_bounds = some ⟨ocare_within_bounds, odare_within_bounds, .func (PySem.W.fnOf "are_within_bounds" "are_within_bounds" (defArgs Lb.s_awb) (defBody Lb.s_awb) (defScope Lb.s_awb) .none kVare_within_bounds docare_within_bounds pmare_within_bounds anare_within_bounds cdare_within_bounds ctare_within_bounds), slare_within_bounds⟩) (care_within_bounds : PySem.W.codeIn K cdare_within_bounds "are_within_bounds" = true) (kare_within_bounds : PySem.W.keepIn K (.ref fare_within_bounds) = true)
    (ais_list : PySem.W.nsIn K mainGlobals "is_list" = some (some (.ref fis_list))) (lis_list : K.lookup fis_list = some ⟨ocis_list, odis_list, .func (PySem.W.fnOf "is_list" "is_list" (defArgs Lb.s_is_list) (defBody Lb.s_is_list) (defScope Lb.s_is_list) .none kVis_list docis_list pmis_list anis_list cdis_list ctis_list), slis_list⟩) (cis_list : PySem.W.codeIn K cdis_list "is_list" = true) (kis_list : PySem.W.keepIn K (.ref fis_list) = true)
    (ais_integer : PySem.W.nsIn K mainGlobals "is_integer" = some (some (.ref fis_integer))) (lis_integer : K.lookup fis_integer = some ⟨ocis_integer, odis_integer, .func (PySem.W.fnOf "is_integer" "is_integer" (defArgs st_is_integer) (defBody st_is_integer) (defScope st_is_integer) .none kVis_integer docis_integer pmis_integer anis_integer cdis_integer ctis_integer), slis_integer⟩) (cis_integer : PySem.W.codeIn K cdis_integer "is_integer" = true) (kis_integer : PySem.W.keepIn K (.ref fis_integer) = true)
    (ais_within_bounds : PySem.W.nsIn K mainGlobals "is_within_bounds" = some (some (.ref fis_within_bounds))) (lis_within_bounds : K.lookup fis_within_bounds = some ⟨ocis_within_bounds, odis_within_bounds, .func (PySem.W.fnOf "is_within_bounds" "is_within_bounds" (defArgs st_is_within_bounds) (defBody st_is_within_bounds) (defScope st_is_within_bounds) .none kVis_within_bounds docis_within_bounds pmis_within_bounds anis_within_bounds cdis_within_bounds ctis_within_bounds), slis_within_bounds⟩) (cis_within_bounds : PySem.W.codeIn K cdis_within_bounds "is_within_bounds" = true) (kis_within_bounds : PySem.W.keepIn K (.ref fis_within_bounds) = true)
    (acheck_order : PySem.W.nsIn K mainGlobals "check_order" = some (some (.ref fcheck_order))) (lcheck_order : K.lookup fcheck_order = some ⟨occheck_order, odcheck_order, .func (PySem.W.fnOf "check_order" "check_order" (defArgs st_check_order) (defBody st_check_order) (defScope st_check_order) .none kVcheck_order doccheck_order pmcheck_order ancheck_order cdcheck_order ctcheck_order), slcheck_order⟩) (ccheck_order : PySem.W.codeIn K cdcheck_order "check_order" = true) (kcheck_order : PySem.W.keepIn K (.ref fcheck_order) = true)
    (acheck_orders : PySem.W.nsIn K mainGlobals "check_orders" = some (some (.ref fcheck_orders))) (lcheck_orders : K.lookup fcheck_orders = some ⟨occheck_orders, odcheck_orders, .func (PySem.W.fnOf "check_orders" "check_orders" (defArgs st_check_orders) (defBody st_check_orders) (defScope st_check_orders) .none kVcheck_orders doccheck_orders pmcheck_orders ancheck_orders cdcheck_orders ctcheck_orders), slcheck_orders⟩) (ccheck_orders : PySem.W.codeIn K cdcheck_orders "check_orders" = true) (kcheck_orders : PySem.W.keepIn K (.ref fcheck_orders) = true)
    (acheck_number : PySem.W.nsIn K mainGlobals "check_number" = some (some (.ref fcheck_number))) (lcheck_number : K.lookup fcheck_number = some ⟨occheck_number, odcheck_number, .func (PySem.W.fnOf "check_number" "check_number" (defArgs st_check_number) (defBody st_check_number) (defScope st_check_number) .none kVcheck_number doccheck_number pmcheck_number ancheck_number cdcheck_number ctcheck_number), slcheck_number⟩) (ccheck_number : PySem.W.codeIn K cdcheck_number "check_number" = true) (kcheck_number : PySem.W.keepIn K (.ref fcheck_number) = true)
    (acheck_many : PySem.W.nsIn K mainGlobals "check_many" = some (some (.ref fcheck_many))) (lcheck_many : K.lookup fcheck_many = some ⟨occheck_many, odcheck_many, .func (PySem.W.fnOf "check_many" "check_many" (defArgs st_check_many) (defBody st_check_many) (defScope st_check_many) .none kVcheck_many doccheck_many pmcheck_many ancheck_many cdcheck_many ctcheck_many), slcheck_many⟩) (ccheck_many : PySem.W.codeIn K cdcheck_many "check_many" = true) (kcheck_many : PySem.W.keepIn K (.ref fcheck_many) = true)
    (aswapped : PySem.W.nsIn K mainGlobals "swapped" = some (some (.ref fswapped))) (lswapped : K.lookup fswapped = some ⟨ocswapped, odswapped, .func (PySem.W.fnOf "swapped" "swapped" (defArgs st_swapped) (defBody st_swapped) (defScope st_swapped) .none kVswapped docswapped pmswapped answapped cdswapped ctswapped), slswapped⟩) (cswapped : PySem.W.codeIn K cdswapped "swapped" = true) (kswapped : PySem.W.keepIn K (.ref fswapped) = true)
    (awrong_pairs : PySem.W.nsIn K mainGlobals "wrong_pairs" = some (some (.ref fwrong_pairs))) (lwrong_pairs : K.lookup fwrong_pairs = some ⟨ocwrong_pairs, odwrong_pairs, .func (PySem.W.fnOf "wrong_pairs" "wrong_pairs" (defArgs st_wrong_pairs) (defBody st_wrong_pairs) (defScope st_wrong_pairs) .none kVwrong_pairs docwrong_pairs pmwrong_pairs anwrong_pairs cdwrong_pairs ctwrong_pairs), slwrong_pairs⟩) (cwrong_pairs : PySem.W.codeIn K cdwrong_pairs "wrong_pairs" = true) (kwrong_pairs : PySem.W.keepIn K (.ref fwrong_pairs) = true)
    (alevel : PySem.W.nsIn K mainGlobals "level" = some (some (.ref flevel))) (llevel : K.lookup flevel = some ⟨oclevel, odlevel, .func (PySem.W.fnOf "level" "level" (defArgs st_level) (defBody st_level) (defScope st_level) .none kVlevel doclevel pmlevel anlevel cdlevel ctlevel), sllevel⟩) (clevel : PySem.W.codeIn K cdlevel "level" = true) (klevel : PySem.W.keepIn K (.ref flevel) = true)
    (aundone : PySem.W.nsIn K mainGlobals "undone" = some (some (.ref fundone))) (lundone : K.lookup fundone = some ⟨ocundone, odundone, .func (PySem.W.fnOf "undone" "undone" (defArgs st_undone) (defBody st_undone) (defScope st_undone) .none kVundone docundone pmundone anundone cdundone ctundone), slundone⟩) (cundone : PySem.W.codeIn K cdundone "undone" = true) (kundone : PySem.W.keepIn K (.ref fundone) = true)
    (aone_behind : PySem.W.nsIn K mainGlobals "one_behind" = some (some (.ref fone_behind))) (lone_behind : K.lookup fone_behind = some ⟨ocone_behind, odone_behind, .func (PySem.W.fnOf "one_behind" "one_behind" (defArgs st_one_behind) (defBody st_one_behind) (defScope st_one_behind) .none kVone_behind docone_behind pmone_behind anone_behind cdone_behind ctone_behind), slone_behind⟩) (cone_behind : PySem.W.codeIn K cdone_behind "one_behind" = true) (kone_behind : PySem.W.keepIn K (.ref fone_behind) = true)
    (afalls : PySem.W.nsIn K mainGlobals "falls" = some (some (.ref ffalls))) (lfalls : K.lookup ffalls = some ⟨ocfalls, odfalls, .func (PySem.W.fnOf "falls" "falls" (defArgs st_falls) (defBody st_falls) (defScope st_falls) .none kVfalls docfalls pmfalls anfalls cdfalls ctfalls), slfalls⟩) (cfalls : PySem.W.codeIn K cdfalls "falls" = true) (kfalls : PySem.W.keepIn K (.ref ffalls) = true)
    (ais_word : PySem.W.nsIn K mainGlobals "is_word" = some (some (.ref fis_word))) (lis_word : K.lookup fis_word = some ⟨ocis_word, odis_word, .func (PySem.W.fnOf "is_word" "is_word" (defArgs st_is_word) (defBody st_is_word) (defScope st_is_word) .none kVis_word docis_word pmis_word anis_word cdis_word ctis_word), slis_word⟩) (cis_word : PySem.W.codeIn K cdis_word "is_word" = true) (kis_word : PySem.W.keepIn K (.ref fis_word) = true)
    (acheck_word : PySem.W.nsIn K mainGlobals "check_word" = some (some (.ref fcheck_word))) (lcheck_word : K.lookup fcheck_word = some ⟨occheck_word, odcheck_word, .func (PySem.W.fnOf "check_word" "check_word" (defArgs st_check_word) (defBody st_check_word) (defScope st_check_word) .none kVcheck_word doccheck_word pmcheck_word ancheck_word cdcheck_word ctcheck_word), slcheck_word⟩) (ccheck_word : PySem.W.codeIn K cdcheck_word "check_word" = true) (kcheck_word : PySem.W.keepIn K (.ref fcheck_word) = true)
    (aword_order : PySem.W.nsIn K mainGlobals "word_order" = some (some (.ref fword_order))) (lword_order : K.lookup fword_order = some ⟨ocword_order, odword_order, .func (PySem.W.fnOf "word_order" "word_order" (defArgs st_word_order) (defBody st_word_order) (defScope st_word_order) .none kVword_order docword_order pmword_order anword_order cdword_order ctword_order), slword_order⟩) (cword_order : PySem.W.codeIn K cdword_order "word_order" = true) (kword_order : PySem.W.keepIn K (.ref fword_order) = true)
    (ais_least : PySem.W.nsIn K mainGlobals "is_least" = some (some (.ref fis_least))) (lis_least : K.lookup fis_least = some ⟨ocis_least, odis_least, .func (PySem.W.fnOf "is_least" "is_least" (defArgs st_is_least) (defBody st_is_least) (defScope st_is_least) .none kVis_least docis_least pmis_least anis_least cdis_least ctis_least), slis_least⟩) (cis_least : PySem.W.codeIn K cdis_least "is_least" = true) (kis_least : PySem.W.keepIn K (.ref fis_least) = true)
    (aa_word : PySem.W.nsIn K mainGlobals "a_word" = some (some (.ref fa_word))) (la_word : K.lookup fa_word = some ⟨oca_word, oda_word, .func (PySem.W.fnOf "a_word" "a_word" (defArgs st_a_word) (defBody st_a_word) (defScope st_a_word) .none kVa_word doca_word pma_word ana_word cda_word cta_word), sla_word⟩) (ca_word : PySem.W.codeIn K cda_word "a_word" = true) (ka_word : PySem.W.keepIn K (.ref fa_word) = true)
    (al_pot : PySem.W.nsIn K mainGlobals "_law_pot" = some (some (.ref fl_pot))) (ll_pot : K.lookup fl_pot = some ⟨ocl_pot, odl_pot, .func (PySem.W.fnOf "_law_pot" "_law_pot" (defArgs st_l_pot) (defBody st_l_pot) (defScope st_l_pot) .none kVl_pot docl_pot pml_pot anl_pot cdl_pot ctl_pot), sll_pot⟩) (cl_pot : PySem.W.codeIn K cdl_pot "_law_pot" = true) (kl_pot : PySem.W.keepIn K (.ref fl_pot) = true)
    (al_draw : PySem.W.nsIn K mainGlobals "_law_draw" = some (some (.ref fl_draw))) (ll_draw : K.lookup fl_draw = some ⟨ocl_draw, odl_draw, .func (PySem.W.fnOf "_law_draw" "_law_draw" (defArgs st_l_draw) (defBody st_l_draw) (defScope st_l_draw) .none kVl_draw docl_draw pml_draw anl_draw cdl_draw ctl_draw), sll_draw⟩) (cl_draw : PySem.W.codeIn K cdl_draw "_law_draw" = true) (kl_draw : PySem.W.keepIn K (.ref fl_draw) = true)
    (al_pick : PySem.W.nsIn K mainGlobals "_law_pick" = some (some (.ref fl_pick))) (ll_pick : K.lookup fl_pick = some ⟨ocl_pick, odl_pick, .func (PySem.W.fnOf "_law_pick" "_law_pick" (defArgs st_l_pick) (defBody st_l_pick) (defScope st_l_pick) .none kVl_pick docl_pick pml_pick anl_pick cdl_pick ctl_pick), sll_pick⟩) (cl_pick : PySem.W.codeIn K cdl_pick "_law_pick" = true) (kl_pick : PySem.W.keepIn K (.ref fl_pick) = true)
    (al_order : PySem.W.nsIn K mainGlobals "_law_order" = some (some (.ref fl_order))) (ll_order : K.lookup fl_order = some ⟨ocl_order, odl_order, .func (PySem.W.fnOf "_law_order" "_law_order" (defArgs st_l_order) (defBody st_l_order) (defScope st_l_order) .none kVl_order docl_order pml_order anl_order cdl_order ctl_order), sll_order⟩) (cl_order : PySem.W.codeIn K cdl_order "_law_order" = true) (kl_order : PySem.W.keepIn K (.ref fl_order) = true)
    (al_passed : PySem.W.nsIn K mainGlobals "_law_passed" = some (some (.ref fl_passed))) (ll_passed : K.lookup fl_passed = some ⟨ocl_passed, odl_passed, .func (PySem.W.fnOf "_law_passed" "_law_passed" (defArgs st_l_passed) (defBody st_l_passed) (defScope st_l_passed) .none kVl_passed docl_passed pml_passed anl_passed cdl_passed ctl_passed), sll_passed⟩) (cl_passed : PySem.W.codeIn K cdl_passed "_law_passed" = true) (kl_passed : PySem.W.keepIn K (.ref fl_passed) = true)
    (al_wrong : PySem.W.nsIn K mainGlobals "_law_wrong" = some (some (.ref fl_wrong))) (ll_wrong : K.lookup fl_wrong = some ⟨ocl_wrong, odl_wrong, .func (PySem.W.fnOf "_law_wrong" "_law_wrong" (defArgs st_l_wrong) (defBody st_l_wrong) (defScope st_l_wrong) .none kVl_wrong docl_wrong pml_wrong anl_wrong cdl_wrong ctl_wrong), sll_wrong⟩) (cl_wrong : PySem.W.codeIn K cdl_wrong "_law_wrong" = true) (kl_wrong : PySem.W.keepIn K (.ref fl_wrong) = true)
    (al_exchanged : PySem.W.nsIn K mainGlobals "_law_exchanged" = some (some (.ref fl_exchanged))) (ll_exchanged : K.lookup fl_exchanged = some ⟨ocl_exchanged, odl_exchanged, .func (PySem.W.fnOf "_law_exchanged" "_law_exchanged" (defArgs st_l_exchanged) (defBody st_l_exchanged) (defScope st_l_exchanged) .none kVl_exchanged docl_exchanged pml_exchanged anl_exchanged cdl_exchanged ctl_exchanged), sll_exchanged⟩) (cl_exchanged : PySem.W.codeIn K cdl_exchanged "_law_exchanged" = true) (kl_exchanged : PySem.W.keepIn K (.ref fl_exchanged) = true)
    (al_word_order : PySem.W.nsIn K mainGlobals "_law_word_order" = some (some (.ref fl_word_order))) (ll_word_order : K.lookup fl_word_order = some ⟨ocl_word_order, odl_word_order, .func (PySem.W.fnOf "_law_word_order" "_law_word_order" (defArgs st_l_word_order) (defBody st_l_word_order) (defScope st_l_word_order) .none kVl_word_order docl_word_order pml_word_order anl_word_order cdl_word_order ctl_word_order), sll_word_order⟩) (cl_word_order : PySem.W.codeIn K cdl_word_order "_law_word_order" = true) (kl_word_order : PySem.W.keepIn K (.ref fl_word_order) = true)
    (al_word : PySem.W.nsIn K mainGlobals "_law_word" = some (some (.ref fl_word))) (ll_word : K.lookup fl_word = some ⟨ocl_word, odl_word, .func (PySem.W.fnOf "_law_word" "_law_word" (defArgs st_l_word) (defBody st_l_word) (defScope st_l_word) .none kVl_word docl_word pml_word anl_word cdl_word ctl_word), sll_word⟩) (cl_word : PySem.W.codeIn K cdl_word "_law_word" = true) (kl_word : PySem.W.keepIn K (.ref fl_word) = true)
    (al_least_word : PySem.W.nsIn K mainGlobals "_law_least_word" = some (some (.ref fl_least_word))) (ll_least_word : K.lookup fl_least_word = some ⟨ocl_least_word, odl_least_word, .func (PySem.W.fnOf "_law_least_word" "_law_least_word" (defArgs st_l_least_word) (defBody st_l_least_word) (defScope st_l_least_word) .none kVl_least_word docl_least_word pml_least_word anl_least_word cdl_least_word ctl_least_word), sll_least_word⟩) (cl_least_word : PySem.W.codeIn K cdl_least_word "_law_least_word" = true) (kl_least_word : PySem.W.keepIn K (.ref fl_least_word) = true)
    (al_word_right : PySem.W.nsIn K mainGlobals "_law_word_right" = some (some (.ref fl_word_right))) (ll_word_right : K.lookup fl_word_right = some ⟨ocl_word_right, odl_word_right, .func (PySem.W.fnOf "_law_word_right" "_law_word_right" (defArgs st_l_word_right) (defBody st_l_word_right) (defScope st_l_word_right) .none kVl_word_right docl_word_right pml_word_right anl_word_right cdl_word_right ctl_word_right), sll_word_right⟩) (cl_word_right : PySem.W.codeIn K cdl_word_right "_law_word_right" = true) (kl_word_right : PySem.W.keepIn K (.ref fl_word_right) = true)
    (al_least_right : PySem.W.nsIn K mainGlobals "_law_least_right" = some (some (.ref fl_least_right))) (ll_least_right : K.lookup fl_least_right = some ⟨ocl_least_right, odl_least_right, .func (PySem.W.fnOf "_law_least_right" "_law_least_right" (defArgs st_l_least_right) (defBody st_l_least_right) (defScope st_l_least_right) .none kVl_least_right docl_least_right pml_least_right anl_least_right cdl_least_right ctl_least_right), sll_least_right⟩) (cl_least_right : PySem.W.codeIn K cdl_least_right "_law_least_right" = true) (kl_least_right : PySem.W.keepIn K (.ref fl_least_right) = true)
    (al_behind_right : PySem.W.nsIn K mainGlobals "_law_behind_right" = some (some (.ref fl_behind_right))) (ll_behind_right : K.lookup fl_behind_right = some ⟨ocl_behind_right, odl_behind_right, .func (PySem.W.fnOf "_law_behind_right" "_law_behind_right" (defArgs st_l_behind_right) (defBody st_l_behind_right) (defScope st_l_behind_right) .none kVl_behind_right docl_behind_right pml_behind_right anl_behind_right cdl_behind_right ctl_behind_right), sll_behind_right⟩) (cl_behind_right : PySem.W.codeIn K cdl_behind_right "_law_behind_right" = true) (kl_behind_right : PySem.W.keepIn K (.ref fl_behind_right) = true)
    (al_right : PySem.W.nsIn K mainGlobals "_law_right" = some (some (.ref fl_right))) (ll_right : K.lookup fl_right = some ⟨ocl_right, odl_right, .func (PySem.W.fnOf "_law_right" "_law_right" (defArgs st_l_right) (defBody st_l_right) (defScope st_l_right) .none kVl_right docl_right pml_right anl_right cdl_right ctl_right), sll_right⟩) (cl_right : PySem.W.codeIn K cdl_right "_law_right" = true) (kl_right : PySem.W.keepIn K (.ref fl_right) = true)
    (alaw : PySem.W.nsIn K mainGlobals "law" = some (some (.ref flaw))) (llaw : K.lookup flaw = some ⟨oclaw, odlaw, .func (PySem.W.fnOf "law" "law" (defArgs st_law) (defBody st_law) (defScope st_law) .none kVlaw doclaw pmlaw anlaw cdlaw ctlaw), sllaw⟩) (claw : PySem.W.codeIn K cdlaw "law" = true) (klaw : PySem.W.keepIn K (.ref flaw) = true)
    (b_abs : PySem.W.nsIn K mainGlobals "abs" = some none)
    (b_all : PySem.W.nsIn K mainGlobals "all" = some none)
    (b_bool : PySem.W.nsIn K mainGlobals "bool" = some none)
    (b_divmod : PySem.W.nsIn K mainGlobals "divmod" = some none)
    (b_int : PySem.W.nsIn K mainGlobals "int" = some none)
    (b_isinstance : PySem.W.nsIn K mainGlobals "isinstance" = some none)
    (b_len : PySem.W.nsIn K mainGlobals "len" = some none)
    (b_list : PySem.W.nsIn K mainGlobals "list" = some none)
    (b_max : PySem.W.nsIn K mainGlobals "max" = some none)
    (b_min : PySem.W.nsIn K mainGlobals "min" = some none)
    (b_range : PySem.W.nsIn K mainGlobals "range" = some none)
    (b_repr : PySem.W.nsIn K mainGlobals "repr" = some none)
    (b_sorted : PySem.W.nsIn K mainGlobals "sorted" = some none)
    (b_tuple : PySem.W.nsIn K mainGlobals "tuple" = some none)
    (aN : PySem.W.nsIn K mainGlobals "MOST_THINGS" = some (some (.int 9 tN)))
    {tMOST_LETTERS : Tok} (aMOST_LETTERS : PySem.W.nsIn K mainGlobals "MOST_LETTERS" = some (some (.int 40 tMOST_LETTERS)))
    (hkt : ktB K = true)
    (e1 : (recsOf q).find? (fun e => e.name == ("is_order" : Str)) = some dr1) (g1 : PySem.W.tabIn K "is_order" = some (c1, t1)) (n1 : K.lookup t1 = none)
    (e2 : (recsOf q).find? (fun e => e.name == ("are_within_bounds" : Str)) = some dr2) (g2 : PySem.W.tabIn K "are_within_bounds" = some (c2, t2)) (n2 : K.lookup t2 = none)
    : LawG l w K 10 63 "_law_script" mg fa h := by
  have Dis_order := df_mk (x := "is_order") (st := Lb.s_is_order) (ps := ["value"]) X G (fun _ _ _ _ _ _ us hl => match us, hl with | [_], _ => rfl) ais_order lis_order cis_order kis_order
  have Dare_within_bounds := df_mk (x := "are_within_bounds") (st := Lb.s_awb) (ps := ["value", "low", "high"]) X G (fun _ _ _ _ _ _ us hl => match us, hl with | [_, _, _], _ => rfl) aare_within_bounds lare_within_bounds care_within_bounds kare_within_bounds
  have Dis_list := df_mk (x := "is_list") (st := Lb.s_is_list) (ps := ["value"]) X G (fun _ _ _ _ _ _ us hl => match us, hl with | [_], _ => rfl) ais_list lis_list cis_list kis_list
  have Dis_integer := df_mk (x := "is_integer") (st := st_is_integer) (ps := ["value"]) X G (fun _ _ _ _ _ _ us hl => match us, hl with | [_], _ => rfl) ais_integer lis_integer cis_integer kis_integer
  have Dis_within_bounds := df_mk (x := "is_within_bounds") (st := st_is_within_bounds) (ps := ["value", "low", "high"]) X G (fun _ _ _ _ _ _ us hl => match us, hl with | [_, _, _], _ => rfl) ais_within_bounds lis_within_bounds cis_within_bounds kis_within_bounds
  have Dcheck_order := df_mk (x := "check_order") (st := st_check_order) (ps := ["order"]) X G (fun _ _ _ _ _ _ us hl => match us, hl with | [_], _ => rfl) acheck_order lcheck_order ccheck_order kcheck_order
  have Dcheck_orders := df_mk (x := "check_orders") (st := st_check_orders) (ps := ["order", "other"]) X G (fun _ _ _ _ _ _ us hl => match us, hl with | [_, _], _ => rfl) acheck_orders lcheck_orders ccheck_orders kcheck_orders
  have Dcheck_number := df_mk (x := "check_number") (st := st_check_number) (ps := ["value", "low", "high"]) X G (fun _ _ _ _ _ _ us hl => match us, hl with | [_, _, _], _ => rfl) acheck_number lcheck_number ccheck_number kcheck_number
  have Dcheck_many := df_mk (x := "check_many") (st := st_check_many) (ps := ["many"]) X G (fun _ _ _ _ _ _ us hl => match us, hl with | [_], _ => rfl) acheck_many lcheck_many ccheck_many kcheck_many
  have Dswapped := df_mk (x := "swapped") (st := st_swapped) (ps := ["order", "first", "second"]) X G (fun _ _ _ _ _ _ us hl => match us, hl with | [_, _, _], _ => rfl) aswapped lswapped cswapped kswapped
  have Dwrong_pairs := df_mk (x := "wrong_pairs") (st := st_wrong_pairs) (ps := ["order"]) X G (fun _ _ _ _ _ _ us hl => match us, hl with | [_], _ => rfl) awrong_pairs lwrong_pairs cwrong_pairs kwrong_pairs
  have Dlevel := df_mk (x := "level") (st := st_level) (ps := ["order"]) X G (fun _ _ _ _ _ _ us hl => match us, hl with | [_], _ => rfl) alevel llevel clevel klevel
  have Dundone := df_mk (x := "undone") (st := st_undone) (ps := ["order"]) X G (fun _ _ _ _ _ _ us hl => match us, hl with | [_], _ => rfl) aundone lundone cundone kundone
  have Done_behind := df_mk (x := "one_behind") (st := st_one_behind) (ps := ["order", "other"]) X G (fun _ _ _ _ _ _ us hl => match us, hl with | [_, _], _ => rfl) aone_behind lone_behind cone_behind kone_behind
  have Dfalls := df_mk (x := "falls") (st := st_falls) (ps := ["order"]) X G (fun _ _ _ _ _ _ us hl => match us, hl with | [_], _ => rfl) afalls lfalls cfalls kfalls
  have Dis_word := df_mk (x := "is_word") (st := st_is_word) (ps := ["word", "many"]) X G (fun _ _ _ _ _ _ us hl => match us, hl with | [_, _], _ => rfl) ais_word lis_word cis_word kis_word
  have Dcheck_word := df_mk (x := "check_word") (st := st_check_word) (ps := ["word", "many"]) X G (fun _ _ _ _ _ _ us hl => match us, hl with | [_, _], _ => rfl) acheck_word lcheck_word ccheck_word kcheck_word
  have Dword_order := df_mk (x := "word_order") (st := st_word_order) (ps := ["word", "many"]) X G (fun _ _ _ _ _ _ us hl => match us, hl with | [_, _], _ => rfl) aword_order lword_order cword_order kword_order
  have Dis_least := df_mk (x := "is_least") (st := st_is_least) (ps := ["word", "many"]) X G (fun _ _ _ _ _ _ us hl => match us, hl with | [_, _], _ => rfl) ais_least lis_least cis_least kis_least
  have Da_word := df_mk (x := "a_word") (st := st_a_word) (ps := ["order"]) X G (fun _ _ _ _ _ _ us hl => match us, hl with | [_], _ => rfl) aa_word la_word ca_word ka_word
  have Dl_pot := df_mk (x := "_law_pot") (st := st_l_pot) (ps := ["_law_script", "_law_k"]) X G (fun _ _ _ _ _ _ us hl => match us, hl with | [_, _], _ => rfl) al_pot ll_pot cl_pot kl_pot
  have Dl_draw := df_mk (x := "_law_draw") (st := st_l_draw) (ps := ["_law_pot_here", "_law_size"]) X G (fun _ _ _ _ _ _ us hl => match us, hl with | [_, _], _ => rfl) al_draw ll_draw cl_draw kl_draw
  have Dl_pick := df_mk (x := "_law_pick") (st := st_l_pick) (ps := ["_law_pot_here", "_law_some"]) X G (fun _ _ _ _ _ _ us hl => match us, hl with | [_, _], _ => rfl) al_pick ll_pick cl_pick kl_pick
  have Dl_order := df_mk (x := "_law_order") (st := st_l_order) (ps := ["_law_pot_here", "_law_many"]) X G (fun _ _ _ _ _ _ us hl => match us, hl with | [_, _], _ => rfl) al_order ll_order cl_order kl_order
  have Dl_passed := df_mk (x := "_law_passed") (st := st_l_passed) (ps := ["_law_pot_here", "_law_order_here"]) X G (fun _ _ _ _ _ _ us hl => match us, hl with | [_, _], _ => rfl) al_passed ll_passed cl_passed kl_passed
  have Dl_wrong := df_mk (x := "_law_wrong") (st := st_l_wrong) (ps := ["_law_order_here"]) X G (fun _ _ _ _ _ _ us hl => match us, hl with | [_], _ => rfl) al_wrong ll_wrong cl_wrong kl_wrong
  have Dl_exchanged := df_mk (x := "_law_exchanged") (st := st_l_exchanged) (ps := ["_law_order_here", "_law_near", "_law_far"]) X G (fun _ _ _ _ _ _ us hl => match us, hl with | [_, _, _], _ => rfl) al_exchanged ll_exchanged cl_exchanged kl_exchanged
  have Dl_word_order := df_mk (x := "_law_word_order") (st := st_l_word_order) (ps := ["_law_word_here", "_law_many"]) X G (fun _ _ _ _ _ _ us hl => match us, hl with | [_, _], _ => rfl) al_word_order ll_word_order cl_word_order kl_word_order
  have Dl_word := df_mk (x := "_law_word") (st := st_l_word) (ps := ["_law_pot_here", "_law_many", "_law_most"]) X G (fun _ _ _ _ _ _ us hl => match us, hl with | [_, _, _], _ => rfl) al_word ll_word cl_word kl_word
  have Dl_least_word := df_mk (x := "_law_least_word") (st := st_l_least_word) (ps := ["_law_pot_here", "_law_order_here"]) X G (fun _ _ _ _ _ _ us hl => match us, hl with | [_, _], _ => rfl) al_least_word ll_least_word cl_least_word kl_least_word
  have Dl_word_right := df_mk (x := "_law_word_right") (st := st_l_word_right) (ps := ["_law_pot_here", "_law_word_here", "_law_many"]) X G (fun _ _ _ _ _ _ us hl => match us, hl with | [_, _, _], _ => rfl) al_word_right ll_word_right cl_word_right kl_word_right
  have Dl_least_right := df_mk (x := "_law_least_right") (st := st_l_least_right) (ps := ["_law_pot_here", "_law_order_here"]) X G (fun _ _ _ _ _ _ us hl => match us, hl with | [_, _], _ => rfl) al_least_right ll_least_right cl_least_right kl_least_right
  have Dl_behind_right := df_mk (x := "_law_behind_right") (st := st_l_behind_right) (ps := ["_law_pot_here", "_law_many"]) X G (fun _ _ _ _ _ _ us hl => match us, hl with | [_, _], _ => rfl) al_behind_right ll_behind_right cl_behind_right kl_behind_right
  have Dl_right := df_mk (x := "_law_right") (st := st_l_right) (ps := ["_law_pot_here"]) X G (fun _ _ _ _ _ _ us hl => match us, hl with | [_], _ => rfl) al_right ll_right cl_right kl_right
  have Dlaw := df_mk (x := "law") (st := st_law) (ps := ["_law_script"]) X G (fun _ _ _ _ _ _ us hl => match us, hl with | [_], _ => rfl) alaw llaw claw klaw
  have e := hfa.symm.trans Dlaw.at_
  cases e
  have o1 := PySem.W.law_code X G g1 Dis_order.at_ (X _ _ lis_order) rfl
  have o2 := PySem.W.law_code X G g2 Dare_within_bounds.at_ (X _ _ lare_within_bounds) rfl
  obtain ⟨hd1, tb1⟩ := hT _ _ _ _ e1 g1
  obtain ⟨hd2, tb2⟩ := hT _ _ _ _ e2 g2
  have split : ∀ p ∈ [(c1, t1), (c2, t2)], p = (c1, t1) ∨ p = (c2, t2) := fun p hp => by
    simpa using hp
  refine ⟨PySem.W.fnOf "law" "law" (defArgs st_law) (defBody st_law) (defScope st_law) .none kVlaw doclaw pmlaw anlaw cdlaw ctlaw, [(c1, t1), (c2, t2)], spLaw K (Ts t1 t2), ?_, ?_, ?_, ?_, ?_, fun base hK hB hC => ?_⟩
  · intro p hp
    rcases split p hp with rfl | rfl
    · exact tb1
    · exact tb2
  · intro p hp
    rcases split p hp with rfl | rfl
    · exact n1
    · exact n2
  · intro p hp
    rcases split p hp with rfl | rfl
    · exact hd1
    · exact hd2
  · exact fun s u => .of_eq rfl
  · refine fun H a ns hl _ hH hS => ⟨a, ns, rfl, hS, hl, fun t ht => ?_, fun _ => rfl⟩
    rcases ht with rfl | rfl
    · exact ⟨#[], hH (c1, t) (.head _), True.intro⟩
    · exact ⟨#[], hH (c2, t) (.tail _ (.head _)), True.intro⟩
  · exact law_fn o1 (hC (c1, t1) (.head _)) o2 (hC (c2, t2) (.tail _ (.head _))) (PySem.W.mg_none_of X G b_abs) (PySem.W.mg_none_of X G b_all) (PySem.W.mg_none_of X G b_bool) (PySem.W.mg_none_of X G b_divmod) (PySem.W.mg_none_of X G b_int) (PySem.W.mg_none_of X G b_isinstance) (PySem.W.mg_none_of X G b_len) (PySem.W.mg_none_of X G b_list) (PySem.W.mg_none_of X G b_max) (PySem.W.mg_none_of X G b_min) (PySem.W.mg_none_of X G b_range) (PySem.W.mg_none_of X G b_repr) (PySem.W.mg_none_of X G b_sorted) (PySem.W.mg_none_of X G b_tuple) ⟨_, PySem.W.mg_of X G aN⟩ (v_MOST_THINGS := .int 9) ⟨_, PySem.W.mg_of X G aN, ⟨_, rfl⟩, fun _ => .int 9⟩ (v_MOST_LETTERS := .int 40) ⟨_, PySem.W.mg_of X G aMOST_LETTERS, ⟨_, rfl⟩, fun _ => .int 40⟩ (kt_of hkt) Dis_order Dare_within_bounds Dis_list Dis_integer Dis_within_bounds Dcheck_order Dcheck_orders Dcheck_number Dcheck_many Dswapped Dwrong_pairs Dlevel Dundone Done_behind Dfalls Dis_word Dcheck_word Dword_order Dis_least Da_word Dl_pot Dl_draw Dl_pick Dl_order Dl_passed Dl_wrong Dl_exchanged Dl_word_order Dl_word Dl_least_word Dl_word_right Dl_least_right Dl_behind_right Dl_right Dlaw (kb_two Dis_least.fn fun _ _ _ _ _ _ _ _ => rfl) (kb_two Dword_order.fn fun _ _ _ _ _ _ _ _ => rfl) (kb_one Da_word.fn fun _ _ _ _ _ _ _ => rfl)
end Pv

set_option maxRecDepth 100000 in
set_option maxHeartbeats 0 in
open PySem PySem.W PyProof.Rows in
theorem PySem.Challenge.cw_lowerboards_k14_whole_words_and_their_or_holds : PySem.Challenge.rw_lowerboards_k14_whole_words_and_their_or.Holds := by
  w_on; o_law; k_head; (case hw => w_witness2)
  k_fill
  refine Lb.walkG (k := 10) (n := 63) (x := "_law_script") rfl (by decide) rfl ⟨rfl, by decide, by decide⟩ (fun w h Y => PySem.W.kIn_of Y) ?F
  case F =>
    intro w mg fa h KX G hmg hT
    refine' Pv.all_mk KX G hmg hT ?ais_order ?lis_order ?cis_order ?kis_order ?aare_within_bounds ?lare_within_bounds ?care_within_bounds ?kare_within_bounds ?ais_list ?lis_list ?cis_list ?kis_list ?ais_integer ?lis_integer ?cis_integer ?kis_integer ?ais_within_bounds ?lis_within_bounds ?cis_within_bounds ?kis_within_bounds ?acheck_order ?lcheck_order ?ccheck_order ?kcheck_order ?acheck_orders ?lcheck_orders ?ccheck_orders ?kcheck_orders ?acheck_number ?lcheck_number ?ccheck_number ?kcheck_number ?acheck_many ?lcheck_many ?ccheck_many ?kcheck_many ?aswapped ?lswapped ?cswapped ?kswapped ?awrong_pairs ?lwrong_pairs ?cwrong_pairs ?kwrong_pairs ?alevel ?llevel ?clevel ?klevel ?aundone ?lundone ?cundone ?kundone ?aone_behind ?lone_behind ?cone_behind ?kone_behind ?afalls ?lfalls ?cfalls ?kfalls ?ais_word ?lis_word ?cis_word ?kis_word ?acheck_word ?lcheck_word ?ccheck_word ?kcheck_word ?aword_order ?lword_order ?cword_order ?kword_order ?ais_least ?lis_least ?cis_least ?kis_least ?aa_word ?la_word ?ca_word ?ka_word ?al_pot ?ll_pot ?cl_pot ?kl_pot ?al_draw ?ll_draw ?cl_draw ?kl_draw ?al_pick ?ll_pick ?cl_pick ?kl_pick ?al_order ?ll_order ?cl_order ?kl_order ?al_passed ?ll_passed ?cl_passed ?kl_passed ?al_wrong ?ll_wrong ?cl_wrong ?kl_wrong ?al_exchanged ?ll_exchanged ?cl_exchanged ?kl_exchanged ?al_word_order ?ll_word_order ?cl_word_order ?kl_word_order ?al_word ?ll_word ?cl_word ?kl_word ?al_least_word ?ll_least_word ?cl_least_word ?kl_least_word ?al_word_right ?ll_word_right ?cl_word_right ?kl_word_right ?al_least_right ?ll_least_right ?cl_least_right ?kl_least_right ?al_behind_right ?ll_behind_right ?cl_behind_right ?kl_behind_right ?al_right ?ll_right ?cl_right ?kl_right ?alaw ?llaw ?claw ?klaw ?b_abs ?b_all ?b_bool ?b_divmod ?b_int ?b_isinstance ?b_len ?b_list ?b_max ?b_min ?b_range ?b_repr ?b_sorted ?b_tuple ?aN ?aMOST_LETTERS ?hkt ?e1 ?g1 ?n1 ?e2 ?g2 ?n2
    (case ais_order => k_is); (case lis_order => k_is); (case cis_order => k_is); (case kis_order => k_is)
    (case aare_within_bounds => k_is); (case lare_within_bounds => k_is); (case care_within_bounds => k_is); (case kare_within_bounds => k_is)
    (case ais_list => k_is); (case lis_list => k_is); (case cis_list => k_is); (case kis_list => k_is)
    (case ais_integer => k_is); (case lis_integer => k_is); (case cis_integer => k_is); (case kis_integer => k_is)
    (case ais_within_bounds => k_is); (case lis_within_bounds => k_is); (case cis_within_bounds => k_is); (case kis_within_bounds => k_is)
    (case acheck_order => k_is); (case lcheck_order => k_is); (case ccheck_order => k_is); (case kcheck_order => k_is)
    (case acheck_orders => k_is); (case lcheck_orders => k_is); (case ccheck_orders => k_is); (case kcheck_orders => k_is)
    (case acheck_number => k_is); (case lcheck_number => k_is); (case ccheck_number => k_is); (case kcheck_number => k_is)
    (case acheck_many => k_is); (case lcheck_many => k_is); (case ccheck_many => k_is); (case kcheck_many => k_is)
    (case aswapped => k_is); (case lswapped => k_is); (case cswapped => k_is); (case kswapped => k_is)
    (case awrong_pairs => k_is); (case lwrong_pairs => k_is); (case cwrong_pairs => k_is); (case kwrong_pairs => k_is)
    (case alevel => k_is); (case llevel => k_is); (case clevel => k_is); (case klevel => k_is)
    (case aundone => k_is); (case lundone => k_is); (case cundone => k_is); (case kundone => k_is)
    (case aone_behind => k_is); (case lone_behind => k_is); (case cone_behind => k_is); (case kone_behind => k_is)
    (case afalls => k_is); (case lfalls => k_is); (case cfalls => k_is); (case kfalls => k_is)
    (case ais_word => k_is); (case lis_word => k_is); (case cis_word => k_is); (case kis_word => k_is)
    (case acheck_word => k_is); (case lcheck_word => k_is); (case ccheck_word => k_is); (case kcheck_word => k_is)
    (case aword_order => k_is); (case lword_order => k_is); (case cword_order => k_is); (case kword_order => k_is)
    (case ais_least => k_is); (case lis_least => k_is); (case cis_least => k_is); (case kis_least => k_is)
    (case aa_word => k_is); (case la_word => k_is); (case ca_word => k_is); (case ka_word => k_is)
    (case al_pot => k_is); (case ll_pot => k_is); (case cl_pot => k_is); (case kl_pot => k_is)
    (case al_draw => k_is); (case ll_draw => k_is); (case cl_draw => k_is); (case kl_draw => k_is)
    (case al_pick => k_is); (case ll_pick => k_is); (case cl_pick => k_is); (case kl_pick => k_is)
    (case al_order => k_is); (case ll_order => k_is); (case cl_order => k_is); (case kl_order => k_is)
    (case al_passed => k_is); (case ll_passed => k_is); (case cl_passed => k_is); (case kl_passed => k_is)
    (case al_wrong => k_is); (case ll_wrong => k_is); (case cl_wrong => k_is); (case kl_wrong => k_is)
    (case al_exchanged => k_is); (case ll_exchanged => k_is); (case cl_exchanged => k_is); (case kl_exchanged => k_is)
    (case al_word_order => k_is); (case ll_word_order => k_is); (case cl_word_order => k_is); (case kl_word_order => k_is)
    (case al_word => k_is); (case ll_word => k_is); (case cl_word => k_is); (case kl_word => k_is)
    (case al_least_word => k_is); (case ll_least_word => k_is); (case cl_least_word => k_is); (case kl_least_word => k_is)
    (case al_word_right => k_is); (case ll_word_right => k_is); (case cl_word_right => k_is); (case kl_word_right => k_is)
    (case al_least_right => k_is); (case ll_least_right => k_is); (case cl_least_right => k_is); (case kl_least_right => k_is)
    (case al_behind_right => k_is); (case ll_behind_right => k_is); (case cl_behind_right => k_is); (case kl_behind_right => k_is)
    (case al_right => k_is); (case ll_right => k_is); (case cl_right => k_is); (case kl_right => k_is)
    (case alaw => k_is); (case llaw => k_is); (case claw => k_is); (case klaw => k_is)
    (case b_abs => k_is); (case b_all => k_is); (case b_bool => k_is); (case b_divmod => k_is)
    (case b_int => k_is); (case b_isinstance => k_is); (case b_len => k_is); (case b_list => k_is)
    (case b_max => k_is); (case b_min => k_is); (case b_range => k_is); (case b_repr => k_is)
    (case b_sorted => k_is); (case b_tuple => k_is); (case aN => k_is); (case aMOST_LETTERS => k_is)
    (case hkt => kernel_rfl); (case e1 => first | rfl | k_is); (case g1 => first | rfl | k_is); (case n1 => first | rfl | k_is)
    (case e2 => first | rfl | k_is); (case g2 => first | rfl | k_is); (case n2 => first | rfl | k_is)
