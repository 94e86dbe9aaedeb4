import PyProof.Rows.All
import Wide.All
import OpenK.AllK
import Wide.FinOn
import HandS.ForMost
import HandS.Walk
import KE.GoesEnum
import HandS.Exc
import HandS.ExcOwn
import HandS.ExcInit
import HandS.ExcField
import HandS.TryOnly
import HandS.WordsExc
import HandS.IsInst
import HandS.Wide
import HandS.TupAny
import HandS.Flow
import HandS.Evl
import HandS.Deep
import HandS.Conv
import HandS.WideBits
import HandS.NoneIn
import HandS.Zip
import HandS.Rev
import PyProof.StrBlock2
import KE.DataMinMax
import HandS.SortRule
import KE.SortData
import KE.GoesZip
import KE.GoesMore
import KE.KRevSl
import HandS.Flt
import KE.KDictZip
import HandS.ExcIs
import KE.KExcIs
import PyProof.SeqIndex
import HandS.Small
import HandS.ListItems
import HandS.SetFor
import HandS.Iter
import HandS.Star
import HandS.StrMore
import HandS.Defaults
import PyProof.StrLawsLast
import HandS.SortInts
import HandS.Strs
import KE.KSortKey
import HandS.SortKw
import HandS.ReplaceLit
import HandS.ReplaceList
import HandS.HotCalls
import HandS.CallLocal
import HandS.ExcInitHot
import HandS.More
import PyProof.StrWalks
import HandS.TryMany
import HandS.Text
import PyProof.StrLawsReplace
import PySem.Challenge.RW_deedstand_k17_whole_signs_rows_spots
set_option Elab.async false
set_option linter.all false
set_option maxRecDepth 100000
set_option maxHeartbeats 4000000
/-! enumerate over a tuple and over a text, one argument -/
namespace Dk
open PySem PySem.Spec PyProof.Rows L2
/-- the object that enumerate(v) makes -/
abbrev enObj (it : Addr) : Obj := { cls := .type "enumerate", data := .fields #[.none, .bool false, .ref it, rawInt 0, .none, .none] }
theorem enum_new1 {v : Value} {o : Obj} {G : Heap → Prop} (B : Begins v o G) :
    Meets (Builtin.«enumerate.__new__» ⟨[.type "enumerate", v], []⟩) fun _ R s =>
      G s.heap ∧ R (.ok (.ret (.ref (s.heap.push o).objs.size))) { s with heap := (s.heap.push o).push (enObj s.heap.objs.size) } := by
  refine .of_wp fun prog w A R s hh => ?_
  rcases s with ⟨hp, gs, dr, tk, os⟩
  obtain ⟨hG, hR⟩ := hh
  have hs := sub_enumerate
  have go : ∀ {A' : Around} {E : Value → Shared → Prop} {Q : Value → Shared → Prop},
      Q (.ref hp.objs.size) ⟨hp.push o, gs, dr, tk, os⟩ → wpAny (model prog w) A' (pyIter v) Q E ⟨hp, gs, dr, tk, os⟩ :=
    fun q => B.iter prog w _ _ ⟨hp, gs, dr, tk, os⟩ _ hG q
  wp_walk using go
  refine wpAny_stack_any fun st => ?_
  refine wpAny_pure ?_
  split
  · rename_i c _ _ _ _ _
    cases (c == Value.type "enumerate") <;> (wp_walk using go; exact ⟨_, rfl, hR⟩)
  · wp_walk using go
    exact ⟨_, rfl, hR⟩
section
variable {prog : Program} {w : World} {A : Around} {E : Value → Shared → Prop} {s : Shared}
theorem enum_call1 {v : Value} {o : Obj} {G : Heap → Prop} {Q : Value → Shared → Prop} (B : Begins v o G) (hG : G s.heap)
    (q : ∀ h', IsEnum h' (s.heap.objs.size + 1) s.heap.objs.size 0 .none → h'.get? s.heap.objs.size = some o →
      (∀ b u, s.heap.get? b = some u → h'.get? b = some u) → Q (.ref (s.heap.objs.size + 1)) { s with heap := h' }) :
    wpAny (model prog w) A (call (.type "enumerate") [v]) Q E s := by
  have sz : (s.heap.push o).objs.size = s.heap.objs.size + 1 := Heap.size_push ..
  have he : IsEnum ((s.heap.push o).push (enObj s.heap.objs.size)) (s.heap.objs.size + 1) s.heap.objs.size 0 .none := by
    have z := Heap.get?_push_size (s.heap.push o) (o := enObj s.heap.objs.size) rfl
    rw [sz] at z
    exact z
  refine callType_new F.called_enumerate (by decide) (F.typeCall_enumerate_1 _) (F.newCall_enumerate_1 _)
    (fun obj => F.args_object_init_2 obj _) F.entry_enumerate_new (enum_new1 B) ⟨hG, ?_⟩
  show _ ∧ _
  rw [sz]
  exact ⟨⟨_, he, rfl⟩, q _ he (Heap.get?_push_of_some _ (Heap.get?_push_size _ B.free))
    fun b u z => Heap.get?_push_of_some _ (Heap.get?_push_of_some _ z)⟩
end
/-- a new pair of the turn's number and f i -/
def ItE (G : Hp → Prop) (n : Nat) (Y : Nat → Hp → V → Prop) : It :=
  ⟨fun i H => G H ∧ i < n, fun i H v H' => ∃ T x, v = .ref T ∧ H T = none ∧ H' = upd H T (.tup [.int (i : Nat), x]) ∧ Y i H x, fun i H => G H ∧ i = n⟩
/-- what the source's own iterator does while the heap is so -/
structure Src (P : Program) (w : World) (K : PySem.W.Frag) (it : Addr) (G : Hp → Prop) (n : Nat) (Y : Nat → Hp → V → Prop) (Tn : Nat → Heap → Prop) : Prop where
  live : ∀ i h, Tn i h → ∃ o, h.get? it = some o ∧ ∀ v, o.data ≠ .cell v
  keep : ∀ i h h', Tn i h → (∀ o, h.get? it = some o → h'.get? it = some o) → Tn i h'
  draw : ∀ (X : Cx), X.prog = P → X.w = w → X.K = K → ∀ (pins : List (Addr × Obj)) (σ : L2.St) (H : Hp) (s : Shared) (i : Nat), Inv X pins σ H s → H it = none → G H → Tn i s.heap → X.A.handled = none →
    ∃ (fp : List Addr) (Pv : Nat → Value → Prop) (St' : Nat → Heap → Prop), Draws P w X.A.in1 it fp n Pv St' ∧ St' i s.heap ∧ (∀ e, H e = none → (∃ old j, IsEnum s.heap e it j old) → e ∉ fp) ∧
      (∀ j u, Pv j u → ∃ x, RelV x u ∧ Y j H x) ∧ ∀ j h, St' j h → Tn j h
theorem turn_E {P : Program} {w : World} {K : PySem.W.Frag} {elts : List Expr} {kk : Nat} {tpos : Pos} {e it : Addr} {G : Hp → Prop} {n : Nat} {Y : Nat → Hp → V → Prop} {Tn : Nat → Heap → Prop} (S : Src P w K it G n Y Tn) :
    Turn P w K (.Tuple elts kk tpos) (ItE G n Y) [e, it] e (fun i h => (∃ old, IsEnum h e it ((i : Nat) : Int) old) ∧ Tn i h ∧ e ≠ it) where
  mem := List.mem_cons_self ..
  obj := fun i h st b hb => by
    obtain ⟨⟨old, he⟩, hs, _⟩ := st
    rcases List.mem_cons.mp hb with z | z
    · subst z
      exact ⟨_, he, fun v q => nomatch q⟩
    · have z' := List.mem_singleton.mp z
      subst z'
      exact S.live i h hs
  keep := fun i h h' st k =>
    ⟨⟨st.1.choose, k e (List.mem_cons_self ..) _ st.1.choose_spec⟩, S.keep i h h' st.2.1 fun o q => k it (List.mem_cons_of_mem _ (List.mem_singleton.mpr rfl)) o q, st.2.2⟩
  item := by
    intro X hP hw hK hc i pins s σ H E I hf st hg
    obtain ⟨⟨old, he⟩, hs, hne⟩ := st
    have fe := hf e (by simp)
    have fi := hf it (by simp)
    obtain ⟨fp, Pv, St', D, hs', hef, hy, back⟩ := S.draw X hP hw hK pins σ H s i I fi.1 hg.1 hs (I.ok.hd hc)
    subst hP hw hK
    have hel : e < s.heap.objs.size := Heap.lt_size he
    obtain ⟨oi, hoi, _⟩ := S.live i _ hs
    have hil : it < s.heap.objs.size := Heap.lt_size hoi
    refine wpAny_pyNext_enum_itemC D he hs' hg.2 hne (hef e fe.1 ⟨_, _, he⟩) fun u h' tk hu ho hst hT hsz hk => ?_
    refine ⟨_, rfl, wpAny_letOwnedTupleGo_enum (s := { s with heap := h', toks := tk + 1 }) ho fun h2 he2 sb => ?_⟩
    obtain ⟨x, rx, yx⟩ := hy i u hu
    have hT2 : h2.get? s.heap.objs.size = some { cls := .type "tuple", data := .seq #[.int i tk, u] } := (sb.2 _ (Nat.ne_of_gt hel)).trans hT
    have new : ObjOk X.prog X.w (upd H s.heap.objs.size (.tup [.int (i : Nat), x])) h2 s.heap.objs.size (.tup [.int (i : Nat), x]) :=
      ⟨by show 2 ≤ sizeLine; decide, [.int i tk, u], .cons ⟨_, rfl⟩ (.cons rx .nil), _, hT2, rfl, _, rfl⟩
    have I1 : Inv X pins σ (upd H s.heap.objs.size (.tup [.int (i : Nat), x])) { s with heap := h2, toks := tk + 1 } := by
      refine I.turnedNew (ch := [e, it]) (fun b o hb q => ?_) hf (Nat.le_refl _) new
      have n1 : b ≠ e := fun z => hb (by simp [z])
      have n2 : b ≠ it := fun z => hb (by simp [z])
      exact (sb.2 b n1).trans (hk b o n1 n2 q)
    refine ⟨.ref s.heap.objs.size, _, I1, rfl, ⟨_, x, rfl, I.hok.fresh (Nat.le_refl _), rfl, yx⟩, ⟨⟨u, ?_⟩, ?_, hne⟩, fun b hb => ?_⟩
    · have e1 : ((i + 1 : Nat) : Int) = (i : Int) + 1 := by omega
      rw [e1]
      exact he2
    · exact S.keep _ _ _ (back _ _ hst) fun o q => (sb.2 it (Ne.symm hne)).trans q
    · have hb' : b < s.heap.objs.size := by
        rcases List.mem_cons.mp hb with z | z
        · exact z ▸ hel
        · exact (List.mem_singleton.mp z) ▸ hil
      rw [upd_ne (Nat.ne_of_lt hb')]
      exact (hf b hb).1
  done := by
    intro X hP hw hK hc i pins s σ H E I hf st hg
    obtain ⟨⟨old, he⟩, hs, hne⟩ := st
    obtain ⟨f0, f1, f2, f3, f4, f5⟩ := hf it (by simp)
    obtain ⟨fp, Pv, St', D, hs', hef, hy, back⟩ := S.draw X hP hw hK pins σ H s i I f0 hg.1 hs (I.ok.hd hc)
    subst hP hw hK
    rw [hg.2] at hs'
    exact wpAny_pyNext_enum_endD D he hs' fun h' eb => ⟨rfl, I.turned (t' := s.toks) (fun b o hb q => eb b o hb q) f0 f1 f3 f4 f5⟩
  self := fun A i s Q E st h => wpAny_pyIter_enum st.1.choose_spec h
theorem src_tup {P : Program} {w : World} {K : PySem.W.Frag} {a it : Addr} {xs : List V} :
    Src P w K it (fun H => SqT K H a xs) xs.length (fun i _ x => xs[i]? = some x) (fun i h => h.IsTupleIter it a i) where
  live := fun i h st => by
    obtain ⟨o, e, c, d⟩ := st
    exact ⟨o, e, fun v z => by rw [d] at z; cases z⟩
  keep := fun i h h' st k => st.at fun o e => k o e
  draw := by
    intro X hP hw hK pins σ H s i I hn hG st hh
    subst hP hw hK
    obtain ⟨its, rv, p, hz⟩ := I.tuple hG
    have pt : s.heap.IsTuple a its.toArray := p
    have hne : a ≠ it := by
      rintro rfl
      obtain ⟨o, e, c, _⟩ := pt
      obtain ⟨o', e', c', _⟩ := id st
      rw [e] at e'
      cases e'
      rw [c] at c'
      injection c' with q
      exact absurd q (by decide)
    have hl := rv.length
    refine ⟨[it, a], fun i v => its.toArray[i]? = some v, fun i h => h.IsTupleIter it a i ∧ h.IsTuple a its.toArray, ?_, ⟨st, pt⟩, fun e he hq => ?_, fun j u hu => ?_, fun j h z => z.1⟩
    · have D := Draws.tuple (prog := X.prog) (w := X.w) (A := X.A.in1) hh it a hne its.toArray
      rw [show its.toArray.size = xs.length by simp; omega] at D
      exact D
    · obtain ⟨old, j, hq⟩ := hq
      intro hm
      rcases List.mem_cons.mp hm with z | z
      · subst z
        obtain ⟨o, e', c, _⟩ := id st
        have hq' : s.heap.get? e = _ := hq
        rw [e'] at hq'
        cases hq'
        injection c with q
        exact absurd q (by decide)
      · have z' := List.mem_singleton.mp z
        subst z'
        obtain ⟨o, e', c, _⟩ := pt
        have hq' : s.heap.get? e = _ := hq
        rw [e'] at hq'
        cases hq'
        injection c with q
        exact absurd q (by decide)
    · have hu' : its[j]? = some u := by simpa using hu
      have hj : j < its.length := (List.getElem?_eq_some_iff.mp hu').1
      have hx : xs[j]? = some (xs[j]'(by omega)) := List.getElem?_eq_getElem (by omega)
      obtain ⟨u', h1, h2⟩ := rv.get hx
      rw [hu'] at h1
      cases h1
      exact ⟨_, h2, hx⟩
theorem src_str {P : Program} {w : World} {K : PySem.W.Frag} {it : Addr} {z : Str} {t : Tok} :
    Src P w K it (fun _ => True) z.cps.size (fun i _ x => ∃ c, z.cps[i]? = some c ∧ x = .str ⟨#[c]⟩) (fun i h => h.IsStrIter it (strIterType z) z t i) where
  live := fun i h st => by
    obtain ⟨o, e, c, d⟩ := st
    exact ⟨o, e, fun v z => by rw [d] at z; cases z⟩
  keep := fun i h h' st k => by
    obtain ⟨o, e, r⟩ := st
    exact ⟨o, k o e, r⟩
  draw := by
    intro X hP hw hK pins σ H s i I hn hG st hh
    subst hP hw hK
    refine ⟨[it], _, _, Draws.text (prog := X.prog) (w := X.w) (A := X.A.in1) hh it z t, st, fun e he hq hm => ?_, fun j u hu => ?_, fun j h z => z⟩
    · obtain ⟨old, j, hq⟩ := hq
      have z' := List.mem_singleton.mp hm
      subst z'
      obtain ⟨o, e', c, _⟩ := id st
      have hq' : s.heap.get? e = _ := hq
      rw [e'] at hq'
      cases hq'
      have c' : strIterType z = "enumerate" := by injection c with q; exact q.symm
      unfold strIterType at c'
      split at c' <;> exact absurd c' (by decide)
    · obtain ⟨c, u', h1, h2⟩ := hu
      exact ⟨.str ⟨#[c]⟩, ⟨u', h2⟩, c, h1, rfl⟩
def iEnumT (K : PySem.W.Frag) (ta : TA) : TI := fun σ H R => ta σ H fun vs H1 => ∃ a xs, vs = [.ref a] ∧ SqT K H1 a xs ∧ R (ItE (fun H => SqT K H a xs) xs.length fun i _ x => xs[i]? = some x) H1
def iEnumS (ta : TA) : TI := fun σ H R => ta σ H fun vs H1 => ∃ z, vs = [.str z] ∧ R (ItE (fun _ => True) z.cps.size fun i _ x => ∃ c, z.cps[i]? = some c ∧ x = .str ⟨#[c]⟩) H1
section
variable {X : Cx} {e : Expr} {ta : TA} {p pos tpos : Pos} {elts : List Expr} {kk : Nat}
theorem pi_enumT (hg : Gl X "enumerate") (hm : X.mg "enumerate" = none) (ha : PA X [e] ta) (hs : starEach [e] X.env = [(false, eval e X.env)] := by rfl) :
    PI X (.Tuple elts kk tpos) (.Call (.Name "enumerate" p) [e] [] pos) (iEnumT X.K ta) := by
  refine ⟨fun pins s σ H R I h => Call_ (ld_blt I hg hm boot_enumerate (PyProof.Rows.callWith_type1 (thn (ha.run pos pins s σ H _ I h) fun us s1 hh => ?_) hs rfl))⟩
  obtain ⟨vs, H1, I1, r1, a, xs, rfl, hq, q⟩ := hh
  obtain ⟨u, rfl, rx⟩ := vals1 r1
  cases rx
  obtain ⟨its, rv, pt, hz⟩ := I1.tuple hq
  refine enum_call1 (begins_tuple a its.toArray) pt fun h' he hit hk => wpAny_pyIter_enum he ?_
  have I2 : Inv X pins σ H1 { s1 with heap := h' } := I1.kept (t' := s1.toks) hk
  refine ⟨s1.heap.objs.size + 1, [s1.heap.objs.size + 1, s1.heap.objs.size], _, _, H1, rfl, I2, turn_E src_tup, ⟨⟨.none, he⟩, ⟨_, hit, rfl, rfl⟩, Nat.succ_ne_self _⟩, fun b hb => ?_, q⟩
  have hle : s1.heap.objs.size ≤ b := by
    rcases List.mem_cons.mp hb with z | z
    · exact z ▸ Nat.le_add_right _ _
    · exact (List.mem_singleton.mp z) ▸ Nat.le_refl _
  exact I1.fpOk hle (I1.hok.fresh hle)
theorem pi_enumS (hg : Gl X "enumerate") (hm : X.mg "enumerate" = none) (ha : PA X [e] ta) (hs : starEach [e] X.env = [(false, eval e X.env)] := by rfl) :
    PI X (.Tuple elts kk tpos) (.Call (.Name "enumerate" p) [e] [] pos) (iEnumS ta) := by
  refine ⟨fun pins s σ H R I h => Call_ (ld_blt I hg hm boot_enumerate (PyProof.Rows.callWith_type1 (thn (ha.run pos pins s σ H _ I h) fun us s1 hh => ?_) hs rfl))⟩
  obtain ⟨vs, H1, I1, r1, z, rfl, q⟩ := hh
  obtain ⟨u, rfl, rx⟩ := vals1 r1
  obtain ⟨t, rfl⟩ := rx
  refine enum_call1 (begins_text z t) trivial fun h' he hit hk => wpAny_pyIter_enum he ?_
  have I2 : Inv X pins σ H1 { s1 with heap := h' } := I1.kept (t' := s1.toks) hk
  refine ⟨s1.heap.objs.size + 1, [s1.heap.objs.size + 1, s1.heap.objs.size], _, _, H1, rfl, I2, turn_E src_str, ⟨⟨.none, he⟩, ⟨_, hit, rfl, rfl⟩, Nat.succ_ne_self _⟩, fun b hb => ?_, q⟩
  have hle : s1.heap.objs.size ≤ b := by
    rcases List.mem_cons.mp hb with z | z
    · exact z ▸ Nat.le_add_right _ _
    · exact (List.mem_singleton.mp z) ▸ Nat.le_refl _
  exact I1.fpOk hle (I1.hok.fresh hle)
end
end Dk

/-! the layer: what grows, steps of readings -/
namespace Dk
open PySem PySem.Spec PyProof.Rows L2

/-! ### what is known grows -/
abbrev A0 : Addr → Prop := fun _ => False
abbrev Ex := Same
/-- G: what is known for good; H: the heap; A: what may change -/
structure Gr (A : Addr → Prop) (G H G' H' : Hp) : Prop where
  gg : Ex G G'
  gh : Ex G' H'
  hh : ∀ b o, ¬ A b → H b = some o → H' b = some o
  th : ∀ b o, H b = some o → ∃ o', H' b = some o'
  nw : ∀ b o, H b = some o → G b = none → G' b = none
section
variable {A : Addr → Prop} {G H G1 H1 G2 H2 : Hp} {p q m : Addr} {o o' u : HO}
theorem Gr.refl (g : Ex G H) : Gr A G H G H := ⟨Same.refl G, g, fun _ _ _ h => h, fun _ o h => ⟨o, h⟩, fun _ _ _ h => h⟩
theorem Gr.trans (a : Gr A G H G1 H1) (b : Gr A G1 H1 G2 H2) : Gr A G H G2 H2 :=
  ⟨a.gg.trans b.gg, b.gh, fun x o n h => b.hh x o n (a.hh x o n h), fun x o h => by
    obtain ⟨o1, h1⟩ := a.th x o h
    exact b.th x o1 h1, fun x o h n => by
    obtain ⟨o1, h1⟩ := a.th x o h
    exact b.nw x o1 h1 (a.nw x o h n)⟩
theorem Gr.wide {B : Addr → Prop} (a : Gr A G H G1 H1) (h : ∀ x, A x → B x) : Gr B G H G1 H1 :=
  ⟨a.gg, a.gh, fun x o n => a.hh x o fun z => n (h x z), a.th, a.nw⟩
theorem Gr.of0 (a : Gr A0 G H G1 H1) : Gr A G H G1 H1 := a.wide fun _ z => z.elim
theorem Gr.same (a : Gr A0 G H G1 H1) : Ex H H1 := fun b o h => a.hh b o (fun z => z) h
/-- a new object, known for good -/
theorem Gr.new (g : Ex G H) (hp : H p = none) : Gr A G H (upd G p o) (upd H p o) where
  gg := fun b x e => by
    rw [upd_ne (ne_of_none e (g.free hp))]
    exact e
  gh := fun b x e => by
    by_cases hb : b = p
    · subst hb
      rw [upd_same] at e ⊢
      exact e
    · rw [upd_ne hb] at e ⊢
      exact g b x e
  hh := fun b x _ e => by
    rw [upd_ne (ne_of_none e hp)]
    exact e
  th := fun b x e => ⟨x, by
    rw [upd_ne (ne_of_none e hp)]
    exact e⟩
  nw := fun b x e n => by
    rw [upd_ne (ne_of_none e hp)]
    exact n
/-- a new object of our own -/
theorem Gr.own (g : Ex G H) (hp : H p = none) : Gr A G H G (upd H p o) where
  gg := Same.refl G
  gh := fun b x e => by
    rw [upd_ne (ne_of_none e (g.free hp))]
    exact g b x e
  hh := fun b x _ e => by
    rw [upd_ne (ne_of_none e hp)]
    exact e
  th := fun b x e => ⟨x, by
    rw [upd_ne (ne_of_none e hp)]
    exact e⟩
  nw := fun b x e n => n
/-- an object of our own is written -/
theorem Gr.mut (t : Gr A G H G1 H1) (h0 : A p ∨ H p = none) (hp : G1 p = none) : Gr A G H G1 (upd H1 p o) where
  gg := t.gg
  gh := fun b x e => by
    rw [upd_ne (ne_of_none e hp)]
    exact t.gh b x e
  hh := fun b x n e => by
    have hb : b ≠ p := fun z => by
      subst z
      rcases h0 with h0 | h0
      · exact n h0
      · rw [h0] at e
        cases e
    rw [upd_ne hb]
    exact t.hh b x n e
  th := fun b x e => by
    by_cases hb : b = p
    · exact ⟨o, by rw [hb, upd_same]⟩
    · rw [upd_ne hb]
      exact t.th b x e
  nw := t.nw
/-- an object of our own is known for good from here on -/
theorem Gr.give (t : Gr A G H G1 H1) (h0 : H p = none) (hp : H1 p = some o) (hn : G1 p = none) : Gr A G H (upd G1 p o) H1 where
  gg := fun b x e => by
    have z := t.gg b x e
    rw [upd_ne (ne_of_none z hn)]
    exact z
  gh := fun b x e => by
    by_cases hb : b = p
    · subst hb
      rw [upd_same] at e
      cases e
      exact hp
    · rw [upd_ne hb] at e
      exact t.gh b x e
  hh := t.hh
  th := t.th
  nw := fun b x e n => by
    have hb : b ≠ p := ne_of_none e h0
    rw [upd_ne hb]
    exact t.nw b x e n
theorem Gr.g0 (t : Gr A G H G1 H1) : Ex G H1 := t.gg.trans t.gh
theorem ne_g (h : G p = some o) (n : G q = none) : p ≠ q := ne_of_none h n
end

/-! ### what is read at an address -/
theorem SqL.up {K : PySem.W.Frag} {G G' : Hp} {a : Addr} {xs : List V} (e : Ex G G') (h : SqL K G a xs) : SqL K G' a xs := e.seq h
theorem SqT.up {K : PySem.W.Frag} {G G' : Hp} {a : Addr} {xs : List V} (e : Ex G G') (h : SqT K G a xs) : SqT K G' a xs := by
  rcases h with (h | ⟨o, h⟩) | h
  · exact .inl (.inl (e _ _ h))
  · exact .inl (.inr ⟨o, e _ _ h⟩)
  · exact .inr h
theorem sqL {K : PySem.W.Frag} {H : Hp} {a : Addr} {xs : List V} (h : H a = some (.lst xs)) : SqL K H a xs := .inl (.inl h)
theorem sqT {K : PySem.W.Frag} {H : Hp} {a : Addr} {xs : List V} (h : H a = some (.tup xs)) : SqT K H a xs := .inl (.inl h)

/-! ### unions of rules -/
def rStr2 : R2 := fun x y H Q => ∃ i j, x = .str i ∧ y = .str j ∧ i.length + j.length ≤ sizeLine ∧ Q (.str (i ++ j)) H
def rAddU (K : PySem.W.Frag) : R2 := fun x y H Q => rI0 (fun i j => .int (i + j)) x y H Q ∨ (rStr2 x y H Q ∨ (rCat x y H Q ∨ rCatA K x y H Q))
def rInS1 : R2 := fun x y H Q => ∃ (c : Nat) (z : Str), x = .str ⟨#[c]⟩ ∧ y = .str z ∧ Q (.bl (decide (c ∈ z.cps.toList))) H
def rNotInS1 : R2 := fun x y H Q => ∃ (c : Nat) (z : Str), x = .str ⟨#[c]⟩ ∧ y = .str z ∧ Q (.bl (!decide (c ∈ z.cps.toList))) H
def rInU (K : PySem.W.Frag) : R2 := fun x y H Q => rInS1 x y H Q ∨ rIn K false x y H Q
def rNotInU (K : PySem.W.Frag) : R2 := fun x y H Q => rNotInS1 x y H Q ∨ rIn K true x y H Q
def rEqU (K : PySem.W.Frag) : R2 := fun x y H Q => rEq x y H Q ∨ rEqD K x y H Q
def rNeU (K : PySem.W.Frag) : R2 := fun x y H Q => rNe x y H Q ∨ rNeD K x y H Q
def rSlU (K : PySem.W.Frag) : V → Option Int → Option Int → Hp → VK → Prop := fun x lo hi H Q => rSlS x lo hi H Q ∨ (rSlL K x lo hi H Q ∨ rSlA K x lo hi H Q)
def rLenU (K : PySem.W.Frag) : List V → Hp → VK → Prop := fun xs H Q => ∃ x n, xs = [x] ∧ LenV K x H n ∧ Q (.int (n : Nat)) H
def rInt1 : List V → Hp → VK → Prop := fun xs H Q => (∃ i, xs = [.int i] ∧ Q (.int i) H) ∨ ∃ k, xs = [.bl k] ∧ Q (.int (if k then 1 else 0)) H
def rMax : List V → Hp → VK → Prop := fun xs H Q => ∃ i j, xs = [.int i, .int j] ∧ Q (.int (if j > i then j else i)) H
def rMin : List V → Hp → VK → Prop := fun xs H Q => ∃ i j, xs = [.int i, .int j] ∧ Q (.int (if j < i then j else i)) H
def rListU (K : PySem.W.Frag) : List V → Hp → VK → Prop := fun xs H Q => ∃ p ys, xs = [.ref p] ∧ (SqL K H p ys ∨ SqT K H p ys) ∧ ∀ l, H l = none → Q (.ref l) (upd H l (.lst ys))
def rTupU (K : PySem.W.Frag) : List V → Hp → VK → Prop := fun xs H Q => ∃ p ys, xs = [.ref p] ∧ ((SqL K H p ys ∧ ∀ l, H l = none → Q (.ref l) (upd H l (.tup ys))) ∨ (SqT K H p ys ∧ Q (.ref p) H))
def rJoin (K : PySem.W.Frag) : V → List V → Hp → VK → Prop := fun x xs H Q => ∃ a p, ∃ ys : List Str, x = .str a ∧ xs = [.ref p] ∧ (SqL K H p (ys.map V.str) ∨ SqT K H p (ys.map V.str)) ∧
  (ys.map (·.length)).sum + ys.length * a.length ≤ 16777216 ∧ Q (.str (Txt.join a ys)) H
def rIsN1 : R2 := fun x y H Q => y = .non ∧ Q (.bl (decide (x = .non))) H
def rNotN1 : R2 := fun x y H Q => y = .non ∧ Q (.bl (!decide (x = .non))) H
def rDivW : R2 := rI CDivW fun i j => .int (i / j)
def rModP : R2 := rI (fun _ j => 0 < j) fun i j => .int (i % j)
def rMulW : R2 := rI CMulW fun i j => .int (i * j)
section
variable {X : Cx}
theorem op_addU : OpR X (binaryOp .Add) (rAddU X.K) := op_add.or (op_add_str.or (op_cat.or op_catA))
theorem op_inU : OpR X (compareOp .In) (rInU X.K) := op_in_sign.or op_in_seq
theorem op_notInU : OpR X (compareOp .NotIn) (rNotInU X.K) := op_notIn_sign.or op_notIn_seq
theorem op_eqU (hu : X.A.units + 64 < cLine) : OpR X (compareOp .Eq) (rEqU X.K) := op_eq.or (op_eqD hu)
theorem op_neU (hu : X.A.units + 64 < cLine) : OpR X (compareOp .NotEq) (rNeU X.K) := op_ne.or (op_neD hu)
theorem sl_U : SlR X (rSlU X.K) := sl_str.or (sl_list.or sl_tupA)
theorem call_lenU : CallR X (.builtin "len") (rLenU X.K) := call_len
theorem call_intU : CallR X (.type "int") rInt1 := call_int1
theorem call_maxU (hc : X.calm = true) : CallR X (.builtin "max") rMax := call_max2 hc
theorem call_minU (hc : X.calm = true) : CallR X (.builtin "min") rMin := call_min2 hc
theorem call_listU : CallR X (.type "list") (rListU X.K) := call_list_of
theorem call_tupU : CallR X (.type "tuple") (rTupU X.K) := call_tuple_of
theorem op_isU : OpR X (compareOp .Is) rIsN1 := op_isN
theorem op_isnotU : OpR X (compareOp .IsNot) rNotN1 := op_notN
theorem op_divW : OpR X (binaryOp .FloorDiv) rDivW := op_fdivW
theorem op_modP : OpR X (binaryOp .Mod) rModP := op_mod
theorem op_mulWW : OpR X (binaryOp .Mult) rMulW := op_mulW
end

/-! within a comprehension -/
section
variable {X : Cx} {K : PySem.W.Frag}
theorem k_add (h : X.K = K) : OpR X (binaryOp .Add) (rAddU K) := h ▸ op_addU
theorem k_in (h : X.K = K) : OpR X (compareOp .In) (rInU K) := h ▸ op_inU
theorem k_notIn (h : X.K = K) : OpR X (compareOp .NotIn) (rNotInU K) := h ▸ op_notInU
theorem k_ix (h : X.K = K) : IxR X (rIx K) := h ▸ ix_seq
theorem k_sl (h : X.K = K) : SlR X (rSlU K) := h ▸ sl_U
theorem k_len (h : X.K = K) : CallR X (.builtin "len") (rLenU K) := h ▸ call_lenU
theorem k_list (h : X.K = K) : CallR X (.type "list") (rListU K) := h ▸ call_listU
theorem k_tup (h : X.K = K) : CallR X (.type "tuple") (rTupU K) := h ▸ call_tupU
theorem k_isi (h : X.K = K) : CallR X (.builtin "isinstance") (rIsi K) := h ▸ call_isi
end
/-! ### steps -/
section
variable {K : PySem.W.Frag} {σ : L2.St} {H H' : Hp} {Q : VK} {v x y : V} {ta tb te : TE} {i j : Int} {D : Ends} {t u : TS} {tt tu : TT} {QB : Bool → Hp → Prop} {ar : TA} {QL : List V → Hp → Prop}
theorem r_var {n : Nat} (h : σ[n]? = some (some v)) (q : Q v H) : tVar n σ H Q := ⟨v, h, q⟩
theorem r_c (q : Q v H) : tC v σ H Q := q
theorem r_op {r : R2} (h : ta σ H fun x H1 => tb σ H1 fun y H2 => r x y H2 Q) : tOp r ta tb σ H Q := h
theorem r_un {r : V → Hp → VK → Prop} (h : ta σ H fun x H1 => r x H1 Q) : tUn r ta σ H Q := h
theorem r_I0 {g : Int → Int → V} (q : Q (g i j) H) : rI0 g (.int i) (.int j) H Q := ⟨i, j, rfl, rfl, q⟩
theorem r_I {C : Int → Int → Prop} {g : Int → Int → V} (c : C i j) (q : Q (g i j) H) : rI C g (.int i) (.int j) H Q := ⟨i, j, rfl, rfl, c, q⟩
theorem r_mulW (c : CMulW i j) (q : Q (.int (i * j)) H) : rMulW (.int i) (.int j) H Q := ⟨i, j, rfl, rfl, c, q⟩
theorem r_divW (c : CDivW i j) (q : Q (.int (i / j)) H) : rDivW (.int i) (.int j) H Q := ⟨i, j, rfl, rfl, c, q⟩
theorem r_modP (c : 0 < j) (q : Q (.int (i % j)) H) : rModP (.int i) (.int j) H Q := ⟨i, j, rfl, rfl, c, q⟩
theorem r_U {g : Int → V} (q : Q (g i) H) : rU g (.int i) H Q := ⟨i, rfl, q⟩
theorem r_addI (q : Q (.int (i + j)) H) : rAddU K (.int i) (.int j) H Q := .inl ⟨i, j, rfl, rfl, q⟩
theorem r_addS {a b : Str} (h : a.length + b.length ≤ sizeLine) (q : Q (.str (a ++ b)) H) : rAddU K (.str a) (.str b) H Q := .inr (.inl ⟨a, b, rfl, rfl, h, q⟩)
theorem r_addL {p q : Addr} {xs ys : List V} (hp : H p = some (.lst xs)) (hq : H q = some (.lst ys)) (hz : xs.length + ys.length ≤ sizeLine) (k : ∀ l, H l = none → Q (.ref l) (upd H l (.lst (xs ++ ys)))) : rAddU K (.ref p) (.ref q) H Q :=
  .inr (.inr (.inl ⟨p, q, xs, ys, rfl, rfl, hp, hq, hz, k⟩))
theorem r_sub (q : Q (.int (i - j)) H) : rI0 (fun i j => .int (i - j)) (.int i) (.int j) H Q := ⟨i, j, rfl, rfl, q⟩
theorem r_inS {c : Nat} {z : Str} (q : Q (.bl (decide (c ∈ z.cps.toList))) H) : rInU K (.str ⟨#[c]⟩) (.str z) H Q := .inl ⟨c, z, rfl, rfl, q⟩
theorem r_niS {c : Nat} {z : Str} (q : Q (.bl (!decide (c ∈ z.cps.toList))) H) : rNotInU K (.str ⟨#[c]⟩) (.str z) H Q := .inl ⟨c, z, rfl, rfl, q⟩
theorem r_eq (h : scal x y = true) (q : Q (.bl (decide (x = y))) H) : rEqU K x y H Q := .inl ⟨h, q⟩
theorem r_ne (h : scal x y = true) (q : Q (.bl (!decide (x = y))) H) : rNeU K x y H Q := .inl ⟨h, q⟩
theorem r_isN (q : Q (.bl (decide (x = .non))) H) : rIsN1 x .non H Q := ⟨rfl, q⟩
theorem r_notN (q : Q (.bl (!decide (x = .non))) H) : rNotN1 x .non H Q := ⟨rfl, q⟩
theorem r_ixL {p : Addr} {xs : List V} (h : SqL K H p xs) (a : atI xs i = some v) (q : Q v H) : rIx K (.ref p) (.int i) H Q := .inl ⟨p, xs, i, v, rfl, rfl, h, a, q⟩
theorem r_ixT {p : Addr} {xs : List V} (h : SqT K H p xs) (a : atI xs i = some v) (q : Q v H) : rIx K (.ref p) (.int i) H Q := .inr (.inl ⟨p, xs, i, v, rfl, rfl, h, a, q⟩)
theorem r_ixS {z : Str} {c : Nat} (h : z.length ≤ sizeLine) (a : atI z.cps.toList i = some c) (q : Q (.str ⟨#[c]⟩) H) : rIx K (.str z) (.int i) H Q := .inr (.inr ⟨z, i, c, rfl, rfl, h, a, q⟩)
theorem r_slS {z : Str} {lo hi : Option Int} (h : z.length ≤ sizeLine) (q : Q (.str (cutS z lo hi)) H) : rSlU K (.str z) lo hi H Q := .inl ⟨z, rfl, h, q⟩
theorem r_slL {p : Addr} {xs : List V} {lo hi : Option Int} (h : SqL K H p xs) (q : ∀ l, H l = none → Q (.ref l) (upd H l (.lst (cutV xs lo hi)))) : rSlU K (.ref p) lo hi H Q := .inr (.inl ⟨p, xs, rfl, h, q⟩)
theorem r_lenS {z : Str} (h : z.length ≤ sizeLine) (q : Q (.int (z.length : Nat)) H) : rLenU K [.str z] H Q := ⟨_, _, rfl, ⟨h, rfl⟩, q⟩
theorem r_lenL {p : Addr} {xs : List V} (h : SqL K H p xs) (q : Q (.int (xs.length : Nat)) H) : rLenU K [.ref p] H Q := ⟨_, _, rfl, .inl ⟨xs, h, rfl⟩, q⟩
theorem r_lenT {p : Addr} {xs : List V} (h : SqT K H p xs) (q : Q (.int (xs.length : Nat)) H) : rLenU K [.ref p] H Q := ⟨_, _, rfl, .inr ⟨xs, h, rfl⟩, q⟩
theorem r_int (q : Q (.int i) H) : rInt1 [.int i] H Q := .inl ⟨i, rfl, q⟩
theorem r_max (q : Q (.int (max i j)) H) : rMax [.int i, .int j] H Q := ⟨i, j, rfl, by
  have e : (if j > i then j else i) = max i j := by omega
  rw [e]
  exact q⟩
theorem r_min (q : Q (.int (min i j)) H) : rMin [.int i, .int j] H Q := ⟨i, j, rfl, by
  have e : (if j < i then j else i) = min i j := by omega
  rw [e]
  exact q⟩
theorem r_listL {p : Addr} {xs : List V} (h : SqL K H p xs) (q : ∀ l, H l = none → Q (.ref l) (upd H l (.lst xs))) : rListU K [.ref p] H Q := ⟨p, xs, rfl, .inl h, q⟩
theorem r_listT {p : Addr} {xs : List V} (h : SqT K H p xs) (q : ∀ l, H l = none → Q (.ref l) (upd H l (.lst xs))) : rListU K [.ref p] H Q := ⟨p, xs, rfl, .inr h, q⟩
theorem r_tupL {p : Addr} {xs : List V} (h : SqL K H p xs) (q : ∀ l, H l = none → Q (.ref l) (upd H l (.tup xs))) : rTupU K [.ref p] H Q := ⟨p, xs, rfl, .inl ⟨h, q⟩⟩
theorem r_tupT {p : Addr} {xs : List V} (h : SqT K H p xs) (q : Q (.ref p) H) : rTupU K [.ref p] H Q := ⟨p, xs, rfl, .inr ⟨h, q⟩⟩
theorem r_isi {n a : String} {b : Bool} (ty : TyX K H x (.type a)) (e : kitB a n = some b) (q : Q (.bl b) H) : rIsi K [x, .ty n] H Q := ⟨x, .ty n, .type a, .type n, b, rfl, .ty n, ty, kit_ty e, q⟩
theorem r_nil (q : QL [] H) : tNil σ H QL := q
theorem r_cons (h : ta σ H fun x H1 => ar σ H1 fun xs H2 => QL (x :: xs) H2) : tCons ta ar σ H QL := h
theorem r_tup (h : ar σ H fun xs H1 => xs.length ≤ sizeLine ∧ ∀ p, H1 p = none → Q (.ref p) (upd H1 p (.tup xs))) : tTup ar σ H Q := h
theorem r_lst (h : ar σ H fun xs H1 => xs.length ≤ sizeLine ∧ ∀ p, H1 p = none → Q (.ref p) (upd H1 p (.lst xs))) : tLst ar σ H Q := h
theorem r_small {xs : List V} {P : Prop} (h : xs.length ≤ 1000) (k : P) : xs.length ≤ sizeLine ∧ P := ⟨Nat.le_of_lt (small1000 h), k⟩
theorem r_CB {r : List V → Hp → VK → Prop} (h : ar σ H fun vs H1 => r vs H1 Q) : tCB r ar σ H Q := h
theorem r_call {sp : Sp} {dvs : List V} {E : XK} (h : ar σ H fun vs H1 => sp (vs ++ dvs) H1 Q E) : tCall sp dvs E ar σ H Q := h
theorem r_callS {sp : Sp} {E : L2.St → XK} (h : ar σ H fun vs H1 => sp vs H1 Q (E σ)) : tCallS sp E ar σ H Q := h
theorem r_bl {b : Bool} (q : QB b H) : ∃ k, V.bl b = .bl k ∧ QB k H := ⟨b, rfl, q⟩
theorem r_test (h : te σ H fun x H1 => ∃ k, x = .bl k ∧ QB k H1) : tTest te σ H QB := h
theorem r_B (h : te σ H fun x H1 => ∃ k, x = .bl k ∧ QB k H1) : tB te σ H QB := h
theorem r_and (h : tt σ H fun c H1 => if c = true then tu σ H1 QB else QB false H1) : tAnd tt tu σ H QB := h
theorem r_andB {b1 b2 : Bool} (h1 : ∀ QB : Bool → Hp → Prop, QB b1 H → tt σ H QB) (h2 : b1 = true → ∀ QB : Bool → Hp → Prop, QB b2 H → tu σ H QB) (k : QB (b1 && b2) H) : tAnd tt tu σ H QB := by
  refine h1 _ ?_
  cases b1 with
  | true => exact h2 rfl _ k
  | false => exact k
theorem r_orB {b1 b2 : Bool} (h1 : ∀ QB : Bool → Hp → Prop, QB b1 H → tt σ H QB) (h2 : b1 = false → ∀ QB : Bool → Hp → Prop, QB b2 H → tu σ H QB) (k : QB (b1 || b2) H) : tOr tt tu σ H QB := by
  refine h1 _ ?_
  cases b1 with
  | true => exact k
  | false => exact h2 rfl _ k
theorem r_or (h : tt σ H fun c H1 => if c = true then QB true H1 else tu σ H1 QB) : tOr tt tu σ H QB := h
theorem r_not (h : tt σ H fun c H1 => QB (!c) H1) : tNot tt σ H QB := h
theorem r_andV (h : ta σ H fun x H1 => ∃ c, x = .bl c ∧ if c = true then tb σ H1 Q else Q (.bl false) H1) : tAndV ta tb σ H Q := h
theorem r_orV (h : ta σ H fun x H1 => ∃ c, x = .bl c ∧ if c = true then Q (.bl true) H1 else tb σ H1 Q) : tOrV ta tb σ H Q := h
theorem r_notV (h : ta σ H fun x H1 => ∃ c, x = .bl c ∧ Q (.bl (!c)) H1) : tNotV ta σ H Q := h
theorem r_ifE (h : tt σ H fun c H1 => if c = true then ta σ H1 Q else tb σ H1 Q) : tIf tt ta tb σ H Q := h
theorem r_blv {b : Bool} {P : Bool → Prop} (q : P b) : ∃ c, V.bl b = .bl c ∧ P c := ⟨b, rfl, q⟩
theorem r_sl {r : V → Option Int → Option Int → Hp → VK → Prop} {tl th : TO} (h : te σ H fun x H1 => tl σ H1 fun l H2 => th σ H2 fun u H3 => r x l u H3 Q) : tSl r te tl th σ H Q := h
theorem r_seq (h : t { D with nx := u D } σ H) : tSeq t u D σ H := h
theorem r_next (q : D.nx σ H) : tNext D σ H := q
theorem r_asg {g : TG} (h : te σ H fun x H1 => g x σ H1 D.nx) : tAsg te g D σ H := h
theorem r_gname {n : Nat} {N : L2.St → Hp → Prop} (q : N (σ.set n (some v)) H) : gName n v σ H N := q
theorem r_ret (h : te σ H D.rt) : tRet te D σ H := h
theorem r_retN (h : D.rt .non H) : tRetN D σ H := h
theorem r_drop (h : te σ H fun _ H1 => D.nx σ H1) : tDrop te D σ H := h
theorem r_ifS (h : tt σ H fun b H1 => if b = true then t D σ H1 else u D σ H1) : tIfS tt t u D σ H := h
theorem r_app {p : Addr} {xs : List V} (h : H p = some (.lst xs)) (z : xs.length < sizeLine) (q : Q .non (upd H p (.lst (xs ++ [v])))) : rAppend (.ref p) [v] H Q := ⟨p, xs, v, rfl, rfl, h, z, q⟩
theorem r_bm {T : String} {r : V → List V → Hp → VK → Prop} (h : te σ H fun x H1 => tyV K T x H1 ∧ ar σ H1 fun xs H2 => r x xs H2 Q) : tBM K T r te ar σ H Q := h
theorem r_tyL {p : Addr} {xs : List V} {P : Prop} (h : SqL K H p xs) (k : P) : tyV K "list" (.ref p) H ∧ P := ⟨.inl ⟨rfl, xs, h⟩, k⟩
theorem r_setL {p : Addr} {xs : List V} {n : Nat} {N : Hp → Prop} (h : H p = some (.lst xs)) (a : ixN xs.length i = some n) (q : N (upd H p (.lst (xs.set n v)))) : rSetL (.ref p) (.int i) v H N := ⟨p, xs, i, n, rfl, rfl, h, a, q⟩
theorem r_gsub {ti : TE} {to : TE} {ts : TSet} {N : L2.St → Hp → Prop} (h : to σ H fun o H1 => ti σ H1 fun i H2 => ts o i v H2 fun H3 => N σ H3) : gSub to ti ts v σ H N := h
theorem r_ite {c A B : Prop} [Decidable c] (h1 : c → A) (h2 : ¬ c → B) : if decide c = true then A else B := by
  by_cases h : c
  · rw [if_pos (decide_eq_true h)]
    exact h1 h
  · rw [if_neg (by rw [decide_eq_false h]; decide)]
    exact h2 h
theorem r_iteN {c A B : Prop} [Decidable c] (h1 : ¬ c → A) (h2 : c → B) : if (!decide c) = true then A else B := by
  by_cases h : c
  · rw [if_neg (by rw [decide_eq_true h]; decide)]
    exact h2 h
  · rw [if_pos (by rw [decide_eq_false h]; rfl)]
    exact h1 h
theorem r_iteB {b : Bool} {A B : Prop} (h1 : b = true → A) (h2 : b = false → B) : if b = true then A else B := by
  cases b with
  | true => exact h1 rfl
  | false => exact h2 rfl
theorem r_itt {A B : Prop} (h : A) : if true = true then A else B := by
  rw [if_pos rfl]
  exact h
theorem r_iff {A B : Prop} (h : B) : if false = true then A else B := by
  rw [if_neg Bool.false_ne_true]
  exact h
theorem r_ittD {b : Bool} {A B : Prop} (e : b = true) (h : A) : if b = true then A else B := by
  rw [if_pos e]
  exact h
theorem r_iffD {b : Bool} {A B : Prop} (e : b = false) (h : B) : if b = true then A else B := by
  rw [e]
  exact r_iff h
theorem r_ittN {A B : Prop} (h : A) : if (!false) = true then A else B := r_itt h
theorem r_iffN {A B : Prop} (h : B) : if (!true) = true then A else B := r_iff h
end

/-! ### growth, further -/
section
variable {A : Addr → Prop} {G H G1 H1 G2 H2 : Hp} {p q m : Addr} {o o' u : HO} {K : PySem.W.Frag} {xs : List V} {Q : VK}
theorem Gr.ex (g : Ex G H) (e : Ex H H1) : Gr A G H G H1 := ⟨Same.refl G, g.trans e, fun b o _ h => e b o h, fun b o h => ⟨o, e b o h⟩, fun _ _ _ n => n⟩
/-- a step of one that leaves everything as it was -/
theorem Gr.then (t : Gr A G H G1 H1) (e : Ex H1 H2) : Gr A G H G1 H2 := t.trans (.ex t.gh e)
theorem Gr.none_of (t : Gr A G H G1 H1) (h : H p = some o) (n : G p = none) : G1 p = none := t.nw p o h n
/-- a new tuple, known for good -/
theorem a_tup (g : Ex G H) (hl : xs.length ≤ 1000) (k : ∀ p G' H', Gr A0 G H G' H' → G' p = some (.tup xs) → H p = none → Q (.ref p) H') :
    xs.length ≤ sizeLine ∧ ∀ p, H p = none → Q (.ref p) (upd H p (.tup xs)) :=
  ⟨Nat.le_of_lt (small1000 hl), fun p hp => k p _ _ (Gr.new g hp) upd_same hp⟩
theorem a_lst (g : Ex G H) (hl : xs.length ≤ 1000) (k : ∀ p G' H', Gr A0 G H G' H' → G' p = some (.lst xs) → H p = none → Q (.ref p) H') :
    xs.length ≤ sizeLine ∧ ∀ p, H p = none → Q (.ref p) (upd H p (.lst xs)) :=
  ⟨Nat.le_of_lt (small1000 hl), fun p hp => k p _ _ (Gr.new g hp) upd_same hp⟩
/-- a new list of our own -/
theorem a_own (g : Ex G H) (hl : xs.length ≤ 1000) (k : ∀ p H', Gr A0 G H G H' → H' p = some (.lst xs) → H p = none → G p = none → Q (.ref p) H') :
    xs.length ≤ sizeLine ∧ ∀ p, H p = none → Q (.ref p) (upd H p (.lst xs)) :=
  ⟨Nat.le_of_lt (small1000 hl), fun p hp => k p _ (Gr.own g hp) upd_same hp (g.free hp)⟩
theorem n_tup (g : Ex G H) (k : ∀ p G' H', Gr A0 G H G' H' → G' p = some (.tup xs) → H p = none → Q (.ref p) H') :
    ∀ p, H p = none → Q (.ref p) (upd H p (.tup xs)) := fun p hp => k p _ _ (Gr.new g hp) upd_same hp
theorem n_lst (g : Ex G H) (k : ∀ p G' H', Gr A0 G H G' H' → G' p = some (.lst xs) → H p = none → Q (.ref p) H') :
    ∀ p, H p = none → Q (.ref p) (upd H p (.lst xs)) := fun p hp => k p _ _ (Gr.new g hp) upd_same hp
theorem n_own (g : Ex G H) (k : ∀ p H', Gr A0 G H G H' → H' p = some (.lst xs) → H p = none → G p = none → Q (.ref p) H') :
    ∀ p, H p = none → Q (.ref p) (upd H p (.lst xs)) := fun p hp => k p _ (Gr.own g hp) upd_same hp (g.free hp)
end
/-! ### raising a class of one field -/
section
variable {K : PySem.W.Frag} {σ : L2.St} {H : Hp} {C : Addr} {f : Str} {v : V} {W : XK}
/-- the promise of its __init__ -/
def spInit1 (C : Addr) (f : Str) : Sp := fun vs H Q _ => ∃ (a : Addr) (v : V), vs = [.ref a, v] ∧ H a = some (exo a C none) ∧
  ∀ dx, H dx = none → dx ≠ a → Q .non (upd (upd H dx (exd dx [(f, v)])) a (exo a C (some dx)))
theorem r_raise1 (q : ∀ d, H d = none → W (.ref C) (some d) (upd H d (.xd [(f, v)]))) :
    ([v] : List V).length ≤ 1000 ∧ ∀ a, H a = none → spInit1 C f (.ref a :: ([v] ++ [])) (upd H a (exo a C none))
      (fun v H2 => v = .non ∧ ∃ (d : Addr) (fs : List (Str × V)), H2 a = some (exo a C (some d)) ∧ H2 d = some (exd d fs) ∧ H d = none ∧ W (.ref C) (some d) (upd (del H2 a) d (.xd fs))) (fun _ _ _ => False) := by
  refine ⟨by show 1 ≤ 1000; decide, fun a ha => ⟨a, v, rfl, upd_same, fun dx hdx hne => ⟨rfl, dx, [(f, v)], upd_same, ?_, ?_, ?_⟩⟩⟩
  · rw [upd_ne hne]
    exact upd_same
  · rw [upd_ne hne] at hdx
    exact hdx
  · rw [upd_ne hne] at hdx
    have e : upd (del (upd (upd (upd H a (exo a C none)) dx (exd dx [(f, v)])) a (exo a C (some dx))) a) dx (.xd [(f, v)]) = upd H dx (.xd [(f, v)]) := by
      funext b
      by_cases h1 : b = dx
      · rw [h1, upd_same, upd_same]
      · rw [upd_ne h1, upd_ne h1]
        by_cases h2 : b = a
        · rw [h2, del_same, ha]
        · rw [del_ne h2, upd_ne h2, upd_ne h1, upd_ne h2]
    rw [e]
    exact q dx hdx
end
theorem Same.mut {H H' : Hp} {p : Addr} {o : HO} (e : Ex H H') (h : H p = none) : Ex H (upd H' p o) := fun a u ha => by
  rw [upd_ne (ne_of_none ha h)]
  exact e a u ha
theorem Same.new {H H' : Hp} {p : Addr} {o : HO} (e : Ex H H') (h : H' p = none) : Ex H (upd H' p o) := fun a u ha => by
  rw [upd_ne (ne_of_none (e a u ha) h)]
  exact e a u ha
/-! ### texts by their codes -/
abbrev cs (z : Str) : List Nat := z.cps.toList
theorem cs_ext {a b : Str} (h : cs a = cs b) : a = b := by
  cases a
  cases b
  exact congrArg Str.mk (Array.toList_inj.mp h)
theorem cs_len (z : Str) : (cs z).length = z.length := Array.length_toList
theorem cs_app (a b : Str) : cs (a ++ b) = cs a ++ cs b := Array.toList_append
theorem cs_join : ∀ ys : List Str, cs (Txt.join "" ys) = (ys.map cs).flatten := fun ys => by
  rw [TL.join_eq]
  induction ys with
  | nil => rfl
  | cons y r ih =>
    cases r with
    | nil => simp [PySem.Str.join, cs]
    | cons x r' =>
      have e : PySem.Str.join "" (y :: x :: r') = y ++ "" ++ PySem.Str.join "" (x :: r') := rfl
      rw [e, cs_app, cs_app, ih]
      have e0 : cs ("" : Str) = [] := by decide
      rw [e0, List.append_nil]
      rfl
theorem cut_list (l : List Nat) (a b : Nat) : (l.drop (min a l.length)).take (min b l.length - min a l.length) = (l.drop a).take (b - a) := by
  by_cases h : a ≤ l.length
  · rw [Nat.min_eq_left h]
    by_cases hb : b ≤ l.length
    · rw [Nat.min_eq_left hb]
    · have hb' : l.length ≤ b := by omega
      rw [Nat.min_eq_right hb', List.take_of_length_le (by rw [List.length_drop]; omega), List.take_of_length_le (by rw [List.length_drop]; omega)]
  · have ha' : l.length ≤ a := by omega
    rw [Nat.min_eq_right ha', List.drop_of_length_le (Nat.le_refl _), List.drop_of_length_le ha', List.take_nil, List.take_nil]
theorem cs_cut (z : Str) (a b : Nat) : cs (cutS z (some (a : Int)) (some (b : Int))) = ((cs z).drop a).take (b - a) := by
  show ((z.cps.toList.drop (HT.sIx z.length 0 (some (a : Int)))).take (HT.sIx z.length z.length (some (b : Int)) - HT.sIx z.length 0 (some (a : Int)))) = _
  rw [HT.sIx_nat, HT.sIx_nat, ← cs_len z]
  exact cut_list _ a b
theorem cs_from (z : Str) (a : Nat) : cs (cutS z (some (a : Int)) none) = (cs z).drop a := by
  show ((z.cps.toList.drop (HT.sIx z.length 0 (some (a : Int)))).take (HT.sIx z.length z.length none - HT.sIx z.length 0 (some (a : Int)))) = _
  rw [HT.sIx_nat, HT.sIx_none, ← cs_len z]
  have h := cut_list (cs z) a (cs z).length
  rw [Nat.min_self] at h
  rw [h, List.take_of_length_le (by rw [List.length_drop]; omega)]
theorem cs_to (z : Str) (b : Nat) : cs (cutS z none (some (b : Int))) = (cs z).take b := by
  show ((z.cps.toList.drop (HT.sIx z.length 0 none)).take (HT.sIx z.length z.length (some (b : Int)) - HT.sIx z.length 0 none)) = _
  rw [HT.sIx_nat, HT.sIx_none, ← cs_len z]
  have h := cut_list (cs z) 0 b
  rw [Nat.zero_min] at h
  exact h
theorem cut_len (z : Str) (lo hi : Option Int) : (cutS z lo hi).length ≤ z.length := cutS_length z lo hi
theorem int_nat {i : Int} (h : 0 ≤ i) : i = ((i.toNat : Nat) : Int) := by omega
theorem at_g {α : Type} {xs : List α} {z : Int} {j : Nat} {v : α} (e : z = (j : Int)) (h : xs[j]? = some v) : atI xs z = some v := by
  rw [e]
  exact atI_nat h
theorem sum_ones {α : Type} : ∀ l : List α, (l.map fun _ => 1).sum = l.length
  | [] => rfl
  | _ :: r => by rw [List.map_cons, List.sum_cons, sum_ones r, List.length_cons, Nat.add_comm]
theorem nsz {xs : List V} (h : Nat.ble xs.length 1000 = true := by rfl) : xs.length ≤ 1000 := Nat.le_of_ble_eq_true h
/-! ### loops -/
section
variable {K : PySem.W.Frag} {σ : L2.St} {H : Hp} {tl : TE} {ta : TA} {g : TG} {tb : TS} {D : Ends}
theorem r_forT (h : tl σ H fun x H1 => ∃ (a : Addr) (xs : List V), x = .ref a ∧ SqT K H1 a xs ∧ ∃ Pv : Nat → L2.St → Hp → Prop, Pv 0 σ H1 ∧ (∀ i σ H, Pv i σ H → SqT K H a xs) ∧
    (∀ i x σ H, xs[i]? = some x → Pv i σ H → g x σ H fun σ2 H2 => tb { D with nx := Pv (i + 1), ct := Pv (i + 1), bk := D.nx } σ2 H2) ∧ ∀ σ H, Pv xs.length σ H → D.nx σ H)
    (mono : ∀ Q Q' : VK, (∀ v H, Q v H → Q' v H) → tl σ H Q → tl σ H Q') : tFor (iTup K tl) g tb D σ H := by
  refine mono _ _ (fun v H1 hh => ?_) h
  obtain ⟨a, xs, rfl, hs, Pv, p0, hl, ht, hd⟩ := hh
  exact ⟨a, rfl, ⟨xs, hs⟩, for_it walk_tup Pv p0 (fun i σ H _ p => hl i σ H p) (fun i x σ H H' hi p y => by
    obtain ⟨rfl, hx⟩ := y
    exact ht i x σ _ hx p) hd⟩
theorem r_forL (h : tl σ H fun x H1 => ∃ (a : Addr) (xs : List V), x = .ref a ∧ SqL K H1 a xs ∧ ∃ Pv : Nat → L2.St → Hp → Prop, Pv 0 σ H1 ∧ (∀ i σ H, Pv i σ H → SqL K H a xs) ∧
    (∀ i x σ H, xs[i]? = some x → Pv i σ H → g x σ H fun σ2 H2 => tb { D with nx := Pv (i + 1), ct := Pv (i + 1), bk := D.nx } σ2 H2) ∧ ∀ σ H, Pv xs.length σ H → D.nx σ H)
    (mono : ∀ Q Q' : VK, (∀ v H, Q v H → Q' v H) → tl σ H Q → tl σ H Q') : tFor (iList K tl) g tb D σ H := by
  refine mono _ _ (fun v H1 hh => ?_) h
  obtain ⟨a, xs, rfl, hs, Pv, p0, hl, ht, hd⟩ := hh
  exact ⟨a, rfl, ⟨xs, hs⟩, for_it walk_list Pv p0 (fun i σ H _ p => hl i σ H p) (fun i x σ H H' hi p y => by
    obtain ⟨rfl, hx⟩ := y
    exact ht i x σ _ hx p) hd⟩
theorem m_var {n : Nat} : ∀ Q Q' : VK, (∀ v H, Q v H → Q' v H) → tVar n σ H Q → tVar n σ H Q' := fun Q Q' h t => by
  obtain ⟨v, e, q⟩ := t
  exact ⟨v, e, h v _ q⟩
/-- over a name's list, tuple, text -/
theorem r_forTv {n : Nat} {a : Addr} {xs : List V} (e : σ[n]? = some (some (.ref a))) (hs : SqT K H a xs) (Pv : Nat → L2.St → Hp → Prop) (p0 : Pv 0 σ H) (hl : ∀ i σ H, Pv i σ H → SqT K H a xs)
    (ht : ∀ i x σ H, xs[i]? = some x → Pv i σ H → g x σ H fun σ2 H2 => tb { D with nx := Pv (i + 1), ct := Pv (i + 1), bk := D.nx } σ2 H2) (hd : ∀ σ H, Pv xs.length σ H → D.nx σ H) : tFor (iTup K (tVar n)) g tb D σ H :=
  r_forT ⟨_, e, a, xs, rfl, hs, Pv, p0, hl, ht, hd⟩ m_var
theorem r_forLv {n : Nat} {a : Addr} {xs : List V} (e : σ[n]? = some (some (.ref a))) (hs : SqL K H a xs) (Pv : Nat → L2.St → Hp → Prop) (p0 : Pv 0 σ H) (hl : ∀ i σ H, Pv i σ H → SqL K H a xs)
    (ht : ∀ i x σ H, xs[i]? = some x → Pv i σ H → g x σ H fun σ2 H2 => tb { D with nx := Pv (i + 1), ct := Pv (i + 1), bk := D.nx } σ2 H2) (hd : ∀ σ H, Pv xs.length σ H → D.nx σ H) : tFor (iList K (tVar n)) g tb D σ H :=
  r_forL ⟨_, e, a, xs, rfl, hs, Pv, p0, hl, ht, hd⟩ m_var
theorem r_forSv {n : Nat} {z : Str} (e : σ[n]? = some (some (.str z))) (Pv : Nat → L2.St → Hp → Prop) (p0 : Pv 0 σ H)
    (ht : ∀ i c σ H, (cs z)[i]? = some c → Pv i σ H → g (.str ⟨#[c]⟩) σ H fun σ2 H2 => tb { D with nx := Pv (i + 1), ct := Pv (i + 1), bk := D.nx } σ2 H2) (hd : ∀ σ H, Pv z.length σ H → D.nx σ H) : tFor (iStr (tVar n)) g tb D σ H := by
  refine ⟨_, e, z, rfl, for_it walk_str Pv p0 (fun _ _ _ _ _ => trivial) (fun i x σ H H' hi p y => ?_) hd⟩
  obtain ⟨rfl, c, hc, rfl⟩ := y
  exact ht i c σ _ (by rw [Array.getElem?_toList]; exact hc) p
theorem walk_E {G : Hp → Prop} {n : Nat} {Y : Nat → Hp → V → Prop} : Walk (ItE G n Y) n G (fun i H v H' => ∃ T x, v = .ref T ∧ H T = none ∧ H' = upd H T (.tup [.int (i : Nat), x]) ∧ Y i H x) :=
  ⟨fun i H hi g => ⟨g, hi⟩, fun H g => ⟨g, rfl⟩, fun i H x H' hi g y => y⟩
theorem r_forETv {n : Nat} {a : Addr} {xs : List V} (e : σ[n]? = some (some (.ref a))) (hs : SqT K H a xs) (Pv : Nat → L2.St → Hp → Prop) (p0 : Pv 0 σ H) (hl : ∀ i σ H, Pv i σ H → SqT K H a xs)
    (ht : ∀ i x σ H p, xs[i]? = some x → Pv i σ H → H p = none → g (.ref p) σ (upd H p (.tup [.int (i : Nat), x])) fun σ2 H2 => tb { D with nx := Pv (i + 1), ct := Pv (i + 1), bk := D.nx } σ2 H2)
    (hd : ∀ σ H, Pv xs.length σ H → D.nx σ H) : tFor (Dk.iEnumT K (tCons (tVar n) tNil)) g tb D σ H := by
  refine ⟨_, e, a, xs, rfl, hs, for_it walk_E Pv p0 (fun i σ H _ p => hl i σ H p) (fun i x σ H H' hi p y => ?_) hd⟩
  obtain ⟨T, x', rfl, hT, rfl, hx⟩ := y
  exact ht i x' σ H T hx p hT
theorem r_forESv {n : Nat} {z : Str} (e : σ[n]? = some (some (.str z))) (Pv : Nat → L2.St → Hp → Prop) (p0 : Pv 0 σ H)
    (ht : ∀ i c σ H p, (cs z)[i]? = some c → Pv i σ H → H p = none → g (.ref p) σ (upd H p (.tup [.int (i : Nat), .str ⟨#[c]⟩])) fun σ2 H2 => tb { D with nx := Pv (i + 1), ct := Pv (i + 1), bk := D.nx } σ2 H2)
    (hd : ∀ σ H, Pv z.length σ H → D.nx σ H) : tFor (Dk.iEnumS (tCons (tVar n) tNil)) g tb D σ H := by
  refine ⟨_, e, z, rfl, for_it walk_E Pv p0 (fun _ _ _ _ _ => trivial) (fun i x σ H H' hi p y => ?_) hd⟩
  obtain ⟨T, x', rfl, hT, rfl, c, hc, rfl⟩ := y
  exact ht i c σ H T (by rw [Array.getElem?_toList]; exact hc) p hT
/-- over range(n) -/
theorem r_forR1 (h : ta σ H fun vs H1 => ∃ n : Int, vs = [.int n] ∧ -1000000 ≤ n ∧ n ≤ 1000000 ∧ ∃ Pv : Nat → L2.St → Hp → Prop, Pv 0 σ H1 ∧
    (∀ (i : Nat) σ H, (i : Int) < n → Pv i σ H → g (.int (i : Nat)) σ H fun σ2 H2 => tb { D with nx := Pv (i + 1), ct := Pv (i + 1), bk := D.nx } σ2 H2) ∧ ∀ σ H, Pv n.toNat σ H → D.nx σ H)
    (mono : ∀ Q Q' : List V → Hp → Prop, (∀ v H, Q v H → Q' v H) → ta σ H Q → ta σ H Q') : tFor (iRng1 ta) g tb D σ H := by
  refine mono _ _ (fun v H1 hh => ?_) h
  obtain ⟨n, rfl, h1, h2, Pv, p0, ht, hd⟩ := hh
  refine ⟨n, rfl, by omega, by omega, for_range Pv p0 (fun i σ H hi p => ?_) hd⟩
  have z := ht i σ H (by omega) p
  rw [Int.zero_add]
  exact z
end
section
variable {K : PySem.W.Frag} {σ : L2.St} {H : Hp} {N : L2.St → Hp → Prop} {v : V} {vs : List V} {t : TG} {u : TGs}
theorem r_gtup {n : Nat} {a : Addr} (h : SqT K H a vs) (hl : vs.length = n) (k : u vs σ H N) : gTup K n u (.ref a) σ H N := ⟨a, vs, rfl, h, hl, k⟩
theorem r_gcons (k : t v σ H fun σ' H' => u vs σ' H' N) : gCons t u (v :: vs) σ H N := ⟨v, vs, rfl, k⟩
theorem r_gnil (k : N σ H) : gNil [] σ H N := ⟨rfl, k⟩
theorem r_mkO {C : Addr} {sp : Sp} {dvs : List V} {ta : TA} {Q : XK} (h : ta σ H fun vs H1 => vs.length ≤ 1000 ∧ ∀ a, H1 a = none → sp (.ref a :: (vs ++ dvs)) (upd H1 a (exo a C none))
  (fun v H2 => v = .non ∧ ∃ (d : Addr) (fs : List (Str × V)), H2 a = some (exo a C (some d)) ∧ H2 d = some (exd d fs) ∧ H1 d = none ∧ Q (.ref C) (some d) (upd (del H2 a) d (.xd fs))) (fun _ _ _ => False)) : tMkO C sp dvs ta σ H Q := h
theorem r_xfo {a C : Addr} {cls : Value} {d : Option Addr} {f : Str} {te : TE} {Q : VK} (h : te σ H fun x H1 => x = .ref a ∧ cls = .ref C ∧ ∃ (dd : Addr) (fs : List (Str × V)) (v : V), d = some dd ∧ H1 dd = some (.xd fs) ∧ fs.lookup f = some v ∧ Q v H1) : tXf a cls d C f te σ H Q := h
theorem r_noP {QO : Option Int → Hp → Prop} (q : QO none H) : tNoPart σ H QO := q
theorem r_part {te : TE} {QO : Option Int → Hp → Prop} (h : te σ H fun x H1 => ∃ i, x = .int i ∧ QO (some i) H1) : tPart te σ H QO := h
theorem r_pI {i : Int} {PO : Int → Prop} (q : PO i) : ∃ j, V.int i = .int j ∧ PO j := ⟨i, rfl, q⟩
end
/-! ### draws -/
def M61 : Int := 2305843009213693951
/-- the state of the draws stands at a -/
def Stt (H : Hp) (a : Addr) : Prop := ∃ z : Int, H a = some (.lst [.int z]) ∧ 0 ≤ z ∧ z < M61
theorem nat61 {z : Int} (h0 : 0 ≤ z) (h : z < M61) : z.natAbs < 2 ^ 61 := by
  unfold M61 at h
  have e : (2 : Nat) ^ 61 = 2305843009213693952 := by decide
  omega
/-- draws were made: the state at a turned, all else is as it was -/
structure Dr (a : Addr) (H H' : Hp) : Prop where
  hh : ∀ b o, b ≠ a → H b = some o → H' b = some o
  st : Stt H' a
section
variable {A : Addr → Prop} {a p : Addr} {G H G1 H1 H2 : Hp} {o : HO}
theorem Stt.up (s : Stt H a) (e : Ex H H1) : Stt H1 a := s.imp fun _ z => ⟨e _ _ z.1, z.2⟩
theorem Stt.ne (s : Stt H a) (h : H p = none) : p ≠ a := fun z => by
  obtain ⟨v, e, _⟩ := s
  rw [← z, h] at e
  cases e
theorem Stt.put (s : Stt H a) (h : p ≠ a) : Stt (upd H p o) a := s.imp fun _ z => ⟨by rw [upd_ne (Ne.symm h)]; exact z.1, z.2⟩
theorem Dr.refl (s : Stt H a) : Dr a H H := ⟨fun _ _ _ h => h, s⟩
theorem Dr.trans (x : Dr a H H1) (y : Dr a H1 H2) : Dr a H H2 := ⟨fun b o n h => y.hh b o n (x.hh b o n h), y.st⟩
theorem Dr.ex (s : Stt H a) (e : Ex H H1) : Dr a H H1 := ⟨fun b o _ h => e b o h, s.up e⟩
theorem Dr.then (x : Dr a H H1) (e : Ex H1 H2) : Dr a H H2 := x.trans (.ex x.st e)
theorem Dr.set {z : Int} (h0 : 0 ≤ z) (h : z < M61) : Dr a H (upd H a (.lst [.int z])) := ⟨fun b o n e => by rw [upd_ne n]; exact e, z, upd_same, h0, h⟩
theorem Dr.mut (x : Dr a H H1) (hp : H p = none) (ne : p ≠ a) : Dr a H (upd H1 p o) :=
  ⟨fun b u n e => by rw [upd_ne (ne_of_none e hp)]; exact x.hh b u n e, x.st.put ne⟩
theorem Dr.new (x : Dr a H H1) (hp : H1 p = none) : Dr a H (upd H1 p o) := x.then (Same.new (Same.refl H1) hp)
theorem Dr.gr (g : Ex G H) (n : G a = none) (s : Stt H a) (d : Dr a H H1) : Gr (· = a) G H G H1 where
  gg := Same.refl G
  gh := fun b x e => d.hh b x (ne_of_none e n) (g b x e)
  hh := fun b x z e => d.hh b x z e
  th := fun b x e => by
    by_cases h : b = a
    · obtain ⟨v, z, _⟩ := d.st
      exact ⟨_, by rw [h]; exact z⟩
    · exact ⟨x, d.hh b x h e⟩
  nw := fun b x e z => z
theorem Gr.na (t : Gr A G H G1 H1) (n : G a = none) (s : Stt H a) : G1 a = none := by
  obtain ⟨z, e, _⟩ := s
  exact t.nw a _ e n
theorem Gr.dr (t : Gr (· = a) G H G1 H1) (n : G a = none) (s : Stt H a) (s1 : Stt H1 a) (d : Dr a H1 H2) : Gr (· = a) G H G1 H2 :=
  t.trans (Dr.gr t.gh (t.na n s) s1 d)
end
/-! ### the laws' own draws -/
def AL : Str := "\n !\"#$&'()*+,-./0123456789:;<=>?@ABCDEFGHIJKLMNOPQRSTUVWXYZ[\\]^_`abcdefghijklmnopqrstuvwxyz{|}~"
def InAL (z : Str) : Prop := ∀ c ∈ cs z, c ∈ cs AL
theorem AL_len : AL.length = 95 := by decide +kernel
def spDraw : Sp := fun vs H Q _ => ∃ (a : Addr) (n : Int), vs = [.ref a, .int n] ∧ Stt H a ∧ 0 < n ∧ ∀ (d : Int) H', 0 ≤ d → d < n → Dr a H H' → Q (.int d) H'
def spStart (K : PySem.W.Frag) : Sp := fun vs H Q _ => ∃ (s : Addr) (ns : List Int), vs = [.ref s] ∧ SqL K H s (ns.map V.int) ∧ ∀ p H', Ex H H' → H p = none → Stt H' p → Q (.ref p) H'
def spSigns : Sp := fun vs H Q _ => vs = [] ∧ Q (.str AL) H
def spText : Sp := fun vs H Q _ => ∃ (a : Addr) (n : Int), vs = [.ref a, .int n] ∧ Stt H a ∧ 0 ≤ n ∧ n ≤ 8000 ∧ ∀ o H', Dr a H H' → (o.length : Int) = n → InAL o → Q (.str o) H'
theorem mix_next {z : Int} (e : Int) : 0 ≤ e % M61 ∧ e % M61 < M61 := ⟨Int.emod_nonneg _ (by decide), Int.emod_lt_of_pos _ (by decide)⟩
/-! ### what is known at a place of a drawing def -/
structure Wd (a : Addr) (G H : Hp) : Prop where
  g : Ex G H
  na : G a = none
  st : Stt H a
section
variable {a p : Addr} {G H G1 H1 G2 H2 : Hp} {o : HO} {xs : List V} {Q : VK}
theorem Wd.step (x : Wd a G H) (t : Gr (· = a) G H G1 H1) (s : Stt H1 a) : Wd a G1 H1 := ⟨t.gh, t.na x.na x.st, s⟩
theorem Wd.pure (x : Wd a G H) (t : Gr A0 G H G1 H1) : Wd a G1 H1 := ⟨t.gh, t.na x.na x.st, x.st.up t.same⟩
theorem Wd.ex (x : Wd a G H) (e : Ex H H1) : Wd a G H1 := ⟨x.g.trans e, x.na, x.st.up e⟩
theorem Wd.dr (x : Wd a G H) (d : Dr a H H1) : Wd a G H1 := ⟨(Dr.gr x.g x.na x.st d).gh, x.na, d.st⟩
theorem Wd.gdr (x : Wd a G H) (d : Dr a H H1) : Gr (· = a) G H G H1 := Dr.gr x.g x.na x.st d
/-- a new list, known for good -/
theorem w_lst (x : Wd a G H) (k : ∀ p G' H', Gr A0 G H G' H' → Wd a G' H' → G' p = some (.lst xs) → Q (.ref p) H') :
    ∀ p, H p = none → Q (.ref p) (upd H p (.lst xs)) := fun p hp => k p _ _ (Gr.new x.g hp) (x.pure (Gr.new x.g hp)) upd_same
theorem w_tup (x : Wd a G H) (k : ∀ p G' H', Gr A0 G H G' H' → Wd a G' H' → G' p = some (.tup xs) → Q (.ref p) H') :
    ∀ p, H p = none → Q (.ref p) (upd H p (.tup xs)) := fun p hp => k p _ _ (Gr.new x.g hp) (x.pure (Gr.new x.g hp)) upd_same
end
theorem new_ex {G H : Hp} {p : Addr} (g : Ex G H) (hp : H p = none) (o : HO) : ∃ G' H', H' = upd H p o ∧ Gr A0 G H G' H' ∧ G' p = some o :=
  ⟨_, _, rfl, Gr.new g hp, upd_same⟩
theorem w_new {a p : Addr} {G H : Hp} (x : Wd a G H) (hp : H p = none) (o : HO) : ∃ G' H', H' = upd H p o ∧ Gr A0 G H G' H' ∧ Wd a G' H' ∧ G' p = some o :=
  ⟨_, _, rfl, Gr.new x.g hp, x.pure (Gr.new x.g hp), upd_same⟩
theorem atI_m1 {xs : List V} (h : xs ≠ []) : ∃ x, atI xs (-1) = some x ∧ x ∈ xs := by
  obtain ⟨l, y, rfl⟩ : ∃ l y, xs = l ++ [y] := ⟨_, _, (List.dropLast_concat_getLast h).symm⟩
  exact ⟨y, atI_last _ _, by simp⟩
theorem own_ex {G H : Hp} {p : Addr} (g : Ex G H) (hp : H p = none) (o : HO) : ∃ H', H' = upd H p o ∧ Gr A0 G H G H' ∧ H' p = some o ∧ G p = none :=
  ⟨_, rfl, Gr.own g hp, upd_same, g.free hp⟩
theorem Gr.fresh {A : Addr → Prop} {G H G1 H1 : Hp} {p : Addr} (t : Gr A G H G1 H1) (h : H1 p = none) : H p = none := by
  cases e : H p with
  | none => rfl
  | some o =>
    obtain ⟨o', z⟩ := t.th p o e
    rw [h] at z
    cases z
theorem ixN_nat {n : Nat} {i : Int} (h0 : 0 ≤ i) (h : i < (n : Int)) : ixN n i = some i.toNat := by
  unfold ixN
  rw [if_pos h0, if_pos h]
/-! loops whose source is reckoned -/
section
variable {K : PySem.W.Frag} {σ : L2.St} {H : Hp} {tl : TE} {ta : TA} {g : TG} {tb : TS} {D : Ends}
def LoopW (J : It) (g : TG) (tb : TS) (D : Ends) (σ : L2.St) (H1 : Hp) : Prop := ∃ W : Nat → Nat → L2.St → Hp → Prop, (∃ m, W 0 m σ H1) ∧ ∀ i m σ H, W i m σ H →
  (J.stop i H ∧ D.nx σ H) ∨ (J.go i H ∧ ∃ N : L2.St → Hp → Prop, (∀ σ' H', N σ' H' → ∃ m', m' < m ∧ W (i + 1) m' σ' H') ∧ ∀ x H', J.yld i H x H' → g x σ H' fun σ2 H2 => tb { D with nx := N, ct := N, bk := D.nx } σ2 H2)
theorem r_forLo (h : tl σ H fun x H1 => ∃ a, x = .ref a ∧ (∃ xs, SqL K H1 a xs) ∧ LoopW (Itl K a) g tb D σ H1) : tFor (iList K tl) g tb D σ H := h
theorem r_forTo (h : tl σ H fun x H1 => ∃ a, x = .ref a ∧ (∃ xs, SqT K H1 a xs) ∧ LoopW (Itt K a) g tb D σ H1) : tFor (iTup K tl) g tb D σ H := h
theorem r_forSo (h : tl σ H fun x H1 => ∃ z, x = .str z ∧ LoopW (Its z) g tb D σ H1) : tFor (iStr tl) g tb D σ H := h
theorem r_forRo (h : ta σ H fun vs H1 => ∃ j : Int, vs = [.int j] ∧ -(2 ^ 62) ≤ j ∧ j < 2 ^ 62 ∧ LoopW (Itr 0 j.toNat) g tb D σ H1) : tFor (iRng1 ta) g tb D σ H := h
theorem r_forR2o (h : ta σ H fun vs H1 => ∃ i j : Int, vs = [.int i, .int j] ∧ (-(2 ^ 62) ≤ i ∧ i < 2 ^ 62 ∧ -(2 ^ 62) ≤ j ∧ j < 2 ^ 62) ∧ LoopW (Itr i (j - i).toNat) g tb D σ H1) : tFor (iRng2 ta) g tb D σ H := h
theorem r_forEo (h : ta σ H fun vs H1 => ∃ a xs, vs = [.ref a] ∧ SqT K H1 a xs ∧ LoopW (ItE (fun H => SqT K H a xs) xs.length fun i _ x => xs[i]? = some x) g tb D σ H1) : tFor (Dk.iEnumT K ta) g tb D σ H := h
theorem r_forESo (h : ta σ H fun vs H1 => ∃ z, vs = [.str z] ∧ LoopW (ItE (fun _ => True) z.cps.size fun i _ x => ∃ c, z.cps[i]? = some c ∧ x = .str ⟨#[c]⟩) g tb D σ H1) : tFor (Dk.iEnumS ta) g tb D σ H := h
theorem l_L {a : Addr} {xs : List V} (hs : SqL K H a xs) (Pv : Nat → L2.St → Hp → Prop) (p0 : Pv 0 σ H) (hl : ∀ i σ H, Pv i σ H → SqL K H a xs)
    (ht : ∀ i x σ H, xs[i]? = some x → Pv i σ H → g x σ H fun σ2 H2 => tb { D with nx := Pv (i + 1), ct := Pv (i + 1), bk := D.nx } σ2 H2) (hd : ∀ σ H, Pv xs.length σ H → D.nx σ H) :
    ∃ b, V.ref a = .ref b ∧ (∃ xs, SqL K H b xs) ∧ LoopW (Itl K b) g tb D σ H :=
  ⟨a, rfl, ⟨xs, hs⟩, for_it walk_list Pv p0 (fun i σ H _ p => hl i σ H p) (fun i x σ H H' hi p y => by
    obtain ⟨rfl, hx⟩ := y
    exact ht i x σ _ hx p) hd⟩
theorem l_T {a : Addr} {xs : List V} (hs : SqT K H a xs) (Pv : Nat → L2.St → Hp → Prop) (p0 : Pv 0 σ H) (hl : ∀ i σ H, Pv i σ H → SqT K H a xs)
    (ht : ∀ i x σ H, xs[i]? = some x → Pv i σ H → g x σ H fun σ2 H2 => tb { D with nx := Pv (i + 1), ct := Pv (i + 1), bk := D.nx } σ2 H2) (hd : ∀ σ H, Pv xs.length σ H → D.nx σ H) :
    ∃ b, V.ref a = .ref b ∧ (∃ xs, SqT K H b xs) ∧ LoopW (Itt K b) g tb D σ H :=
  ⟨a, rfl, ⟨xs, hs⟩, for_it walk_tup Pv p0 (fun i σ H _ p => hl i σ H p) (fun i x σ H H' hi p y => by
    obtain ⟨rfl, hx⟩ := y
    exact ht i x σ _ hx p) hd⟩
theorem l_S {z : Str} (Pv : Nat → L2.St → Hp → Prop) (p0 : Pv 0 σ H)
    (ht : ∀ i c σ H, (cs z)[i]? = some c → Pv i σ H → g (.str ⟨#[c]⟩) σ H fun σ2 H2 => tb { D with nx := Pv (i + 1), ct := Pv (i + 1), bk := D.nx } σ2 H2) (hd : ∀ σ H, Pv z.length σ H → D.nx σ H) :
    ∃ y, V.str z = .str y ∧ LoopW (Its y) g tb D σ H := by
  refine ⟨z, rfl, for_it walk_str Pv p0 (fun _ _ _ _ _ => trivial) (fun i x σ H H' hi p y => ?_) hd⟩
  obtain ⟨rfl, c, hc, rfl⟩ := y
  exact ht i c σ _ (by rw [Array.getElem?_toList]; exact hc) p
theorem l_R {n : Int} (h1 : -1000000 ≤ n) (h2 : n ≤ 1000000) (Pv : Nat → L2.St → Hp → Prop) (p0 : Pv 0 σ H)
    (ht : ∀ (i : Nat) σ H, (i : Int) < n → Pv i σ H → g (.int (i : Nat)) σ H fun σ2 H2 => tb { D with nx := Pv (i + 1), ct := Pv (i + 1), bk := D.nx } σ2 H2) (hd : ∀ σ H, Pv n.toNat σ H → D.nx σ H) :
    ∃ j : Int, [V.int n] = [.int j] ∧ -(2 ^ 62) ≤ j ∧ j < 2 ^ 62 ∧ LoopW (Itr 0 j.toNat) g tb D σ H := by
  refine ⟨n, rfl, by omega, by omega, for_range Pv p0 (fun i σ H hi p => ?_) hd⟩
  have z := ht i σ H (by omega) p
  rw [Int.zero_add]
  exact z
theorem l_E {a : Addr} {xs : List V} (hs : SqT K H a xs) (Pv : Nat → L2.St → Hp → Prop) (p0 : Pv 0 σ H) (hl : ∀ i σ H, Pv i σ H → SqT K H a xs)
    (ht : ∀ i x σ H p, xs[i]? = some x → Pv i σ H → H p = none → g (.ref p) σ (upd H p (.tup [.int (i : Nat), x])) fun σ2 H2 => tb { D with nx := Pv (i + 1), ct := Pv (i + 1), bk := D.nx } σ2 H2)
    (hd : ∀ σ H, Pv xs.length σ H → D.nx σ H) : ∃ b ys, [V.ref a] = [.ref b] ∧ SqT K H b ys ∧ LoopW (ItE (fun H => SqT K H b ys) ys.length fun i _ x => ys[i]? = some x) g tb D σ H := by
  refine ⟨a, xs, rfl, hs, for_it walk_E Pv p0 (fun i σ H _ p => hl i σ H p) (fun i x σ H H' hi p y => ?_) hd⟩
  obtain ⟨T, x', rfl, hT, rfl, hx⟩ := y
  exact ht i x' σ H T hx p hT
end
theorem cutV_mem {xs : List V} {lo hi : Option Int} {x : V} (h : x ∈ cutV xs lo hi) : x ∈ xs := List.mem_of_mem_drop (List.mem_of_mem_take h)
theorem cutV_len {xs : List V} {lo hi : Option Int} : (cutV xs lo hi).length ≤ xs.length := by
  unfold cutV
  rw [List.length_take, List.length_drop]
  omega
theorem cutV_to (xs : List V) (n : Nat) : cutV xs none (some (n : Int)) = xs.take n := by
  unfold cutV
  rw [HT.sIx_nat, HT.sIx_none, List.drop_zero, Nat.sub_zero]
  by_cases h : n ≤ xs.length
  · rw [Nat.min_eq_left h]
  · rw [Nat.min_eq_right (by omega), List.take_of_length_le (Nat.le_refl _), List.take_of_length_le (by omega)]
theorem atI_lt {xs : List V} {i : Int} (h0 : 0 ≤ i) (h : i < (xs.length : Int)) : ∃ x, atI xs i = some x ∧ x ∈ xs := by
  have hi : i.toNat < xs.length := by omega
  exact ⟨xs[i.toNat], at_g (by omega) (List.getElem?_eq_getElem hi), List.getElem_mem _⟩
end Dk

/-! the told order: signs, the relation by its hops, its closure by rounds over a table of bits -/
namespace Tl
abbrev Sg := Nat × Nat
section
variable (L R : Nat → Sg)
/-- told ahead, by hops -/
inductive A : Sg → Sg → Prop where
  | same {x y : Sg} (h : x.1 = y.1) (i : x.2 < y.2) : A x y
  | rEq {x y : Sg} (h : y.1 < x.1) (e : R x.1 = y) : A x y
  | rGo {x y : Sg} (h : y.1 < x.1) (a : A (R x.1) y) : A x y
  | lEq {x y : Sg} (h : x.1 < y.1) (e : x = L y.1) : A x y
  | lGo {x y : Sg} (h : x.1 < y.1) (a : A x (L y.1)) : A x y
def E (x y : Sg) : Prop := x = y ∨ A L R x y
end
section
variable {L R : Nat → Sg} {x y z : Sg}
theorem A.same_iff (h : x.1 = y.1) : A L R x y ↔ x.2 < y.2 :=
  ⟨fun a => by cases a with
    | same _ i => exact i
    | rEq g _ => omega
    | rGo g _ => omega
    | lEq g _ => omega
    | lGo g _ => omega, fun i => .same h i⟩
theorem A.r_iff (h : y.1 < x.1) : A L R x y ↔ E L R (R x.1) y :=
  ⟨fun a => by cases a with
    | same g _ => omega
    | rEq _ e => exact .inl e
    | rGo _ a => exact .inr a
    | lEq g _ => omega
    | lGo g _ => omega, fun e => e.elim (.rEq h) (.rGo h)⟩
theorem A.l_iff (h : x.1 < y.1) : A L R x y ↔ E L R x (L y.1) :=
  ⟨fun a => by cases a with
    | same g _ => omega
    | rEq g _ => omega
    | rGo g _ => omega
    | lEq _ e => exact .inl e
    | lGo _ a => exact .inr a, fun e => e.elim (.lEq h) (.lGo h)⟩
theorem A.irr : ¬ A L R x x := fun a => by
  have z := (A.same_iff (L := L) (R := R) (rfl : x.1 = x.1)).mp a
  omega
/-- births below n: left and right of lesser chunks, the left told ahead of the right -/
structure Bs (L R : Nat → Sg) (n : Nat) : Prop where
  l : ∀ c, 0 < c → c < n → (L c).1 < c
  r : ∀ c, 0 < c → c < n → (R c).1 < c
  lr : ∀ c, 0 < c → c < n → A L R (L c) (R c)
theorem Bs.mono {n m : Nat} (b : Bs L R n) (h : m ≤ n) : Bs L R m := ⟨fun c h0 h1 => b.l c h0 (by omega), fun c h0 h1 => b.r c h0 (by omega), fun c h0 h1 => b.lr c h0 (by omega)⟩
theorem Bs.trans {n : Nat} (b : Bs L R n) : ∀ m, m ≤ n → ∀ x y z : Sg, x.1 < m → y.1 < m → z.1 < m → A L R x y → A L R y z → A L R x z := by
  intro m
  induction m with
  | zero => intro _ x y z h; omega
  | succ m ih =>
    intro hm x y z hx hy hz a1 a2
    have ih' := ih (by omega)
    have eT : ∀ {u v t : Sg}, u.1 < m → v.1 < m → t.1 < m → E L R u v → A L R v t → A L R u t := fun h1 h2 h3 e a => by
      rcases e with rfl | e
      · exact a
      · exact ih' _ _ _ h1 h2 h3 e a
    have tE : ∀ {u v t : Sg}, u.1 < m → v.1 < m → t.1 < m → A L R u v → E L R v t → A L R u t := fun h1 h2 h3 a e => by
      rcases e with rfl | e
      · exact a
      · exact ih' _ _ _ h1 h2 h3 a e
    by_cases cx : x.1 = m
    · by_cases cy : y.1 = m
      · by_cases cz : z.1 = m
        · have i1 := (A.same_iff (by omega)).mp a1
          have i2 := (A.same_iff (by omega)).mp a2
          exact .same (by omega) (by omega)
        · have e2 := (A.r_iff (by omega)).mp a2
          exact (A.r_iff (by omega)).mpr (by rw [show x.1 = y.1 by omega]; exact e2)
      · by_cases cz : z.1 = m
        · exfalso
          have m0 : 0 < m := by omega
          have hl := b.l m m0 (by omega)
          have hr := b.r m m0 (by omega)
          have hlr := b.lr m m0 (by omega)
          have e1 := (A.r_iff (by omega)).mp a1
          have e2 := (A.l_iff (by omega)).mp a2
          rw [cx] at e1
          rw [cz] at e2
          have a3 : A L R (L m) y := tE hl hr (by omega) hlr e1
          have a4 : A L R (L m) (L m) := tE hl (by omega) hl a3 e2
          exact A.irr a4
        · have e1 := (A.r_iff (by omega)).mp a1
          have hr := b.r x.1 (by omega) (by omega)
          exact (A.r_iff (by omega)).mpr (.inr (eT (by omega) (by omega) (by omega) e1 a2))
    · by_cases cy : y.1 = m
      · by_cases cz : z.1 = m
        · have e1 := (A.l_iff (by omega)).mp a1
          exact (A.l_iff (by omega)).mpr (by rw [show z.1 = y.1 by omega]; exact e1)
        · have e1 := (A.l_iff (by omega)).mp a1
          have e2 := (A.r_iff (by omega)).mp a2
          have hl := b.l y.1 (by omega) (by omega)
          have hr := b.r y.1 (by omega) (by omega)
          have hlr := b.lr y.1 (by omega) (by omega)
          have a3 := eT (by omega) (by omega) (by omega) e1 hlr
          exact tE (by omega) (by omega) (by omega) a3 e2
      · by_cases cz : z.1 = m
        · have e2 := (A.l_iff (by omega)).mp a2
          have hl := b.l z.1 (by omega) (by omega)
          exact (A.l_iff (by omega)).mpr (.inr (tE (by omega) (by omega) (by omega) a1 e2))
        · exact ih' x y z (by omega) (by omega) (by omega) a1 a2
theorem Bs.tr {n : Nat} (b : Bs L R n) (hx : x.1 < n) (hy : y.1 < n) (hz : z.1 < n) (a1 : A L R x y) (a2 : A L R y z) : A L R x z := b.trans n (Nat.le_refl n) x y z hx hy hz a1 a2
/-- only births up to the greater chunk count -/
theorem A.congr {L' R' : Nat → Sg} {n : Nat} (hl : ∀ c, 0 < c → c < n → L c = L' c) (hr : ∀ c, 0 < c → c < n → R c = R' c) (b : ∀ c, 0 < c → c < n → (L c).1 < c ∧ (R c).1 < c) :
    ∀ {x y : Sg}, A L R x y → x.1 < n → y.1 < n → A L' R' x y := fun {x y} a => by
  induction a with
  | same h i => exact fun _ _ => .same h i
  | @rEq x y h e => exact fun hx hy => .rEq h ((hr x.1 (by omega) hx).symm.trans e)
  | @rGo x y h a ih =>
    intro hx hy
    have e := hr x.1 (by omega) hx
    have w := (b x.1 (by omega) hx).2
    exact .rGo h (e ▸ ih (by omega) hy)
  | @lEq x y h e => exact fun hx hy => .lEq h (e.trans (hl y.1 (by omega) hy))
  | @lGo x y h a ih =>
    intro hx hy
    have e := hl y.1 (by omega) hy
    have w := (b y.1 (by omega) hy).1
    exact .lGo h (e ▸ ih hx (by omega))
end
/-! ### paths -/
inductive Pth (S : List (Nat × Nat)) : Nat → Nat → Nat → Prop where
  | one {a b : Nat} (h : (a, b) ∈ S) : Pth S 1 a b
  | step {k a b c : Nat} (h : (a, b) ∈ S) (p : Pth S k b c) : Pth S (k + 1) a c
def Rch (S : List (Nat × Nat)) (a b : Nat) : Prop := ∃ k, Pth S k a b
section
variable {S : List (Nat × Nat)} {a b c : Nat}
theorem Pth.app {k m : Nat} (p : Pth S k a b) (q : Pth S m b c) : Rch S a c := by
  induction p with
  | one h => exact ⟨_, .step h q⟩
  | step h p ih =>
    obtain ⟨k', r⟩ := ih q
    exact ⟨_, .step h r⟩
theorem Rch.tr (p : Rch S a b) (q : Rch S b c) : Rch S a c := by
  obtain ⟨k, p⟩ := p
  obtain ⟨m, q⟩ := q
  exact p.app q
/-- a list without repeats within another one is no longer -/
theorem nodup_le : ∀ {l m : List Nat}, l.Nodup → (∀ x ∈ l, x ∈ m) → l.length ≤ m.length
  | [], m, _, _ => Nat.zero_le _
  | x :: r, m, hn, hm => by
    have hx : x ∈ m := hm x (List.mem_cons_self ..)
    have hn' := List.nodup_cons.mp hn
    have h1 : ∀ y ∈ r, y ∈ m.erase x := fun y hy => (List.mem_erase_of_ne (by
      rintro rfl
      exact hn'.1 hy)).mpr (hm y (List.mem_cons_of_mem _ hy))
    have h2 := nodup_le hn'.2 h1
    rw [List.length_erase_of_mem hx] at h2
    have h3 : 0 < m.length := List.length_pos_of_mem hx
    rw [List.length_cons]
    omega
theorem Pth.bound {k n : Nat} {lt : Nat → Nat → Prop} (hS : ∀ a b, (a, b) ∈ S → lt a b ∧ a < n ∧ b < n) (tr : ∀ a b c, a < n → b < n → c < n → lt a b → lt b c → lt a c) (ir : ∀ a, ¬ lt a a) (p : Pth S k a b) : k + 1 ≤ n := by
  have key : ∀ {k a b}, Pth S k a b → ∃ l : List Nat, l.length = k ∧ (a :: l).Nodup ∧ (∀ x ∈ l, lt a x) ∧ ∀ x ∈ a :: l, x < n := by
    intro k a b p
    induction p with
    | @one a b h =>
      obtain ⟨h1, h2, h3⟩ := hS _ _ h
      refine ⟨[b], rfl, ?_, by simpa using h1, by simp [h2, h3]⟩
      simp
      exact fun e => ir a (e ▸ h1)
    | @step k a b c h p ih =>
      obtain ⟨l, hl, hn, hlt, hb⟩ := ih
      obtain ⟨h1, h2, h3⟩ := hS _ _ h
      have all : ∀ x ∈ b :: l, lt a x := fun x hx => by
        rcases List.mem_cons.mp hx with rfl | hx
        · exact h1
        · exact tr a b x h2 h3 (hb x (List.mem_cons_of_mem _ hx)) h1 (hlt x hx)
      refine ⟨b :: l, by rw [List.length_cons, hl], List.nodup_cons.mpr ⟨fun hm => ir a (all a hm), hn⟩, all, fun x hx => ?_⟩
      rcases List.mem_cons.mp hx with rfl | hx
      · exact h2
      · exact hb x hx
  obtain ⟨l, hl, hn, _, hb⟩ := key p
  have z := nodup_le (m := List.range n) hn fun x hx => List.mem_range.mpr (hb x hx)
  rw [List.length_cons, hl, List.length_range] at z
  exact z
end
/-! ### the table -/
def put (T : List Nat) (e : Nat × Nat) : List Nat := T.set e.1 (T.getD e.1 0 ||| 1 <<< e.2 ||| T.getD e.2 0)
def lap (S : List (Nat × Nat)) (T : List Nat) : List Nat := S.foldl put T
/-- T has b behind a -/
def Bit (T : List Nat) (a b : Nat) : Prop := (T.getD a 0).testBit b = true
section
variable {S : List (Nat × Nat)} {T : List Nat} {n : Nat}
theorem put_len (e : Nat × Nat) : (put T e).length = T.length := List.length_set ..
theorem lap_len : ∀ (S : List (Nat × Nat)) (T : List Nat), (lap S T).length = T.length
  | [], _ => rfl
  | e :: r, T => (lap_len r (put T e)).trans (put_len e)
theorem bit_put {e : Nat × Nat} (h : e.1 < T.length) {a b : Nat} : Bit (put T e) a b ↔ Bit T a b ∨ (a = e.1 ∧ (b = e.2 ∨ Bit T e.2 b)) := by
  unfold Bit put
  by_cases ha : a = e.1
  · subst ha
    have g : (T.set e.1 (T.getD e.1 0 ||| 1 <<< e.2 ||| T.getD e.2 0)).getD e.1 0 = T.getD e.1 0 ||| 1 <<< e.2 ||| T.getD e.2 0 := by
      simp [List.getD, List.getElem?_set, h]
    rw [g, Nat.testBit_or, Nat.testBit_or, Nat.one_shiftLeft, Nat.testBit_two_pow, Bool.or_eq_true, Bool.or_eq_true, decide_eq_true_iff]
    constructor
    · rintro ((h | h) | h)
      · exact .inl h
      · exact .inr ⟨rfl, .inl h.symm⟩
      · exact .inr ⟨rfl, .inr h⟩
    · rintro (h | ⟨_, h | h⟩)
      · exact .inl (.inl h)
      · exact .inl (.inr h.symm)
      · exact .inr h
  · have g : (T.set e.1 (T.getD e.1 0 ||| 1 <<< e.2 ||| T.getD e.2 0)).getD a 0 = T.getD a 0 := by
      simp [List.getD, List.getElem?_set, Ne.symm ha]
    rw [g]
    constructor
    · exact fun h => .inl h
    · rintro (h | ⟨h, _⟩)
      · exact h
      · exact absurd h ha
theorem lap_mono : ∀ (S : List (Nat × Nat)) {T : List Nat}, (∀ e ∈ S, e.1 < T.length) → ∀ {a b}, Bit T a b → Bit (lap S T) a b
  | [], _, _, _, _, h => h
  | e :: r, T, hS, a, b, h => lap_mono r (fun e' he => by rw [put_len]; exact hS e' (List.mem_cons_of_mem _ he)) ((bit_put (hS e (List.mem_cons_self ..))).mpr (.inl h))
theorem lap_edge : ∀ (S : List (Nat × Nat)) {T : List Nat}, (∀ e ∈ S, e.1 < T.length) → ∀ {a b c}, (a, b) ∈ S → c = b ∨ Bit T b c → Bit (lap S T) a c
  | e :: r, T, hS, a, b, c, hm, h => by
    have hr : ∀ e' ∈ r, e'.1 < (put T e).length := fun e' he => by rw [put_len]; exact hS e' (List.mem_cons_of_mem _ he)
    rcases List.mem_cons.mp hm with rfl | hm
    · exact lap_mono r hr ((bit_put (hS _ (List.mem_cons_self ..))).mpr (.inr ⟨rfl, h⟩))
    · refine lap_edge r hr hm (h.imp id fun h => (bit_put (hS e (List.mem_cons_self ..))).mpr (.inl h))
theorem lap_sound : ∀ (S : List (Nat × Nat)) {S0 : List (Nat × Nat)} {T : List Nat}, (∀ e ∈ S, e ∈ S0) → (∀ e ∈ S, e.1 < T.length) → (∀ a b, Bit T a b → Rch S0 a b) → ∀ a b, Bit (lap S T) a b → Rch S0 a b
  | [], _, _, _, _, h => h
  | e :: r, S0, T, h0, hS, h => lap_sound r (fun e' he => h0 e' (List.mem_cons_of_mem _ he)) (fun e' he => by rw [put_len]; exact hS e' (List.mem_cons_of_mem _ he)) fun a b hb => by
    refine Or.elim ((bit_put (hS e (List.mem_cons_self ..))).mp hb) (fun hb => h a b hb) fun hb => ?_
    · obtain ⟨ea, hb2⟩ := hb
      subst ea
      have he : Rch S0 e.1 e.2 := ⟨1, .one (h0 e (List.mem_cons_self ..))⟩
      refine Or.elim hb2 (fun e1 => ?_) (fun hb => he.tr (h _ _ hb))
      rw [e1]
      exact he
/-- behind r laps all paths of at most r steps are there -/
def Upto (S : List (Nat × Nat)) (T : List Nat) (r : Nat) : Prop := ∀ k a b, Pth S k a b → k ≤ r → Bit T a b
theorem Upto.lap {r : Nat} (hS : ∀ e ∈ S, e.1 < T.length) (u : Upto S T r) : Upto S (lap S T) (r + 1) := fun k a b p hk => by
  cases p with
  | one h => exact lap_edge S hS h (.inl rfl)
  | step h p => exact lap_edge S hS h (.inr (u _ _ _ p (by omega)))
/-- where a lap changes nothing all paths are there -/
theorem still_all (hS : ∀ e ∈ S, e.1 < T.length) (h : ∀ a b c, (a, b) ∈ S → c = b ∨ Bit T b c → Bit T a c) {a b : Nat} (p : Rch S a b) : Bit T a b := by
  obtain ⟨k, p⟩ := p
  induction p with
  | one h' => exact h _ _ _ h' (.inl rfl)
  | step h' p ih => exact h _ _ _ h' (.inr ih)
end
end Tl

namespace Tl
/-! ### signs in a row, steps -/
section
variable (sz : Nat → Nat)
def off : Nat → Nat
  | 0 => 0
  | c + 1 => off c + sz c
def rowOf (c : Nat) : List Sg := (List.range (sz c)).map fun i => (c, i)
def marks : Nat → List Sg
  | 0 => []
  | c + 1 => marks c ++ rowOf sz c
def ps (x : Sg) : Nat := off sz x.1 + x.2
/-- a sign of the births below n -/
def Ok (n : Nat) (x : Sg) : Prop := x.1 < n ∧ x.2 < sz x.1
end
section
variable {sz : Nat → Nat} {n : Nat} {x y : Sg}
theorem rowOf_len (c : Nat) : (rowOf sz c).length = sz c := by simp [rowOf]
theorem marks_len : ∀ n, (marks sz n).length = off sz n
  | 0 => rfl
  | n + 1 => by
    show (marks sz n ++ rowOf sz n).length = off sz n + sz n
    rw [List.length_append, marks_len n, rowOf_len]
theorem marks_at : ∀ {n : Nat} {x : Sg}, Ok sz n x → (marks sz n)[ps sz x]? = some x
  | 0, x, h => absurd h.1 (Nat.not_lt_zero _)
  | n + 1, x, h => by
    show (marks sz n ++ rowOf sz n)[ps sz x]? = some x
    by_cases hx : x.1 < n
    · have ih := marks_at (n := n) ⟨hx, h.2⟩
      obtain ⟨hl, _⟩ := List.getElem?_eq_some_iff.mp ih
      rw [List.getElem?_append_left hl]
      exact ih
    · have e : x.1 = n := by have := h.1; omega
      have e2 : ps sz x = (marks sz n).length + x.2 := by unfold ps; rw [marks_len, e]
      rw [e2, List.getElem?_append_right (by omega), Nat.add_sub_cancel_left]
      unfold rowOf
      rw [List.getElem?_map, List.getElem?_range (by rw [← e]; exact h.2)]
      show some (n, x.2) = some x
      rw [← e]
theorem mem_marks : ∀ {n : Nat} {x : Sg}, x ∈ marks sz n ↔ Ok sz n x
  | 0, x => by simp [marks, Ok]
  | n + 1, x => by
    show x ∈ marks sz n ++ rowOf sz n ↔ _
    rw [List.mem_append, mem_marks]
    unfold rowOf Ok
    simp only [List.mem_map, List.mem_range]
    constructor
    · rintro (⟨h1, h2⟩ | ⟨i, hi, rfl⟩)
      · exact ⟨by omega, h2⟩
      · exact ⟨by show n < n + 1; omega, hi⟩
    · rintro ⟨h1, h2⟩
      by_cases hx : x.1 < n
      · exact .inl ⟨hx, h2⟩
      · have e : x.1 = n := by omega
        refine .inr ⟨x.2, by rw [← e]; exact h2, ?_⟩
        rw [← e]
theorem ps_lt (h : Ok sz n x) : ps sz x < off sz n := by
  have := (List.getElem?_eq_some_iff.mp (marks_at h)).1
  rw [marks_len] at this
  exact this
theorem ps_inj (hx : Ok sz n x) (hy : Ok sz n y) (e : ps sz x = ps sz y) : x = y := by
  have h1 := marks_at hx
  rw [e, marks_at hy] at h1
  exact (Option.some.inj h1).symm
theorem sign_at {j : Nat} (h : j < off sz n) : ∃ x, Ok sz n x ∧ ps sz x = j := by
  have hj : j < (marks sz n).length := by rw [marks_len]; exact h
  have hm : (marks sz n)[j] ∈ marks sz n := List.getElem_mem hj
  have ok := mem_marks.mp hm
  refine ⟨_, ok, ?_⟩
  have key : ∀ {n j : Nat} {x : Sg}, (marks sz n)[j]? = some x → ps sz x = j := by
    intro n
    induction n with
    | zero => intro j x h; simp [marks] at h
    | succ n ih =>
      intro j x h
      have h' : (marks sz n ++ rowOf sz n)[j]? = some x := h
      by_cases hl : j < (marks sz n).length
      · rw [List.getElem?_append_left hl] at h'
        exact ih h'
      · rw [List.getElem?_append_right (by omega)] at h'
        unfold rowOf at h'
        rw [List.getElem?_map] at h'
        obtain ⟨i, hi, rfl⟩ := Option.map_eq_some_iff.mp h'
        have e := (List.getElem?_eq_some_iff.mp hi).2
        simp at e
        unfold ps
        show off sz n + i = j
        rw [marks_len] at e hl
        omega
  exact key (List.getElem?_eq_getElem hj)
end
section
variable (L R : Nat → Sg) (sz : Nat → Nat)
def stepsOf (c : Nat) : List (Nat × Nat) := (ps sz (L c), off sz c) :: ((List.range (sz c - 1)).map fun i => (off sz c + i, off sz c + i + 1)) ++ [(off sz c + sz c - 1, ps sz (R c))]
/-- the steps of the births 1 to n -/
def steps : Nat → List (Nat × Nat)
  | 0 => [(0, 1)]
  | n + 1 => steps n ++ stepsOf L R sz (n + 1)
/-- births below n, as a sheet may make them -/
structure Wv (n : Nat) : Prop extends Bs L R n where
  n0 : 0 < n
  s0 : sz 0 = 2
  s1 : ∀ c, 0 < c → c < n → 0 < sz c
  lo : ∀ c, 0 < c → c < n → (L c).2 < sz (L c).1
  ro : ∀ c, 0 < c → c < n → (R c).2 < sz (R c).1
end
section
variable {L R : Nat → Sg} {sz : Nat → Nat} {n : Nat}
theorem Wv.okL (w : Wv L R sz n) {c : Nat} (h0 : 0 < c) (h : c < n) : Ok sz n (L c) := ⟨Nat.lt_trans (w.l c h0 h) h, w.lo c h0 h⟩
theorem Wv.okR (w : Wv L R sz n) {c : Nat} (h0 : 0 < c) (h : c < n) : Ok sz n (R c) := ⟨Nat.lt_trans (w.r c h0 h) h, w.ro c h0 h⟩
theorem Wv.mono (w : Wv L R sz n) {m : Nat} (h0 : 0 < m) (h : m ≤ n) : Wv L R sz m :=
  { Bs.mono w.toBs h with n0 := h0, s0 := w.s0, s1 := fun c h1 h2 => w.s1 c h1 (by omega), lo := fun c h1 h2 => w.lo c h1 (by omega), ro := fun c h1 h2 => w.ro c h1 (by omega) }
theorem mem_steps {m : Nat} {e : Nat × Nat} : e ∈ steps L R sz m ↔ e = (0, 1) ∨ ∃ c, 0 < c ∧ c ≤ m ∧ e ∈ stepsOf L R sz c := by
  induction m with
  | zero =>
    show e ∈ [(0, 1)] ↔ _
    rw [List.mem_singleton]
    constructor
    · exact .inl
    · rintro (h | ⟨c, h1, h2, _⟩)
      · exact h
      · omega
  | succ m ih =>
    show e ∈ steps L R sz m ++ stepsOf L R sz (m + 1) ↔ _
    rw [List.mem_append, ih]
    constructor
    · rintro ((h | ⟨c, h1, h2, h3⟩) | h)
      · exact .inl h
      · exact .inr ⟨c, h1, by omega, h3⟩
      · exact .inr ⟨m + 1, by omega, by omega, h⟩
    · rintro (h | ⟨c, h1, h2, h3⟩)
      · exact .inl (.inl h)
      · by_cases hc : c ≤ m
        · exact .inl (.inr ⟨c, h1, hc, h3⟩)
        · have e : c = m + 1 := by omega
          rw [e] at h3
          exact .inr h3
theorem mem_stepsOf {c : Nat} {e : Nat × Nat} : e ∈ stepsOf L R sz c ↔ e = (ps sz (L c), off sz c) ∨ (∃ i, i < sz c - 1 ∧ e = (off sz c + i, off sz c + i + 1)) ∨ e = (off sz c + sz c - 1, ps sz (R c)) := by
  unfold stepsOf
  simp only [List.cons_append, List.mem_cons, List.mem_append, List.mem_map, List.mem_range, List.not_mem_nil, or_false]
  constructor
  · rintro (h | ⟨i, hi, rfl⟩ | h)
    · exact .inl h
    · exact .inr (.inl ⟨i, hi, rfl⟩)
    · exact .inr (.inr h)
  · rintro (h | ⟨i, hi, rfl⟩ | h)
    · exact .inl h
    · exact .inr (.inl ⟨i, hi, rfl⟩)
    · exact .inr (.inr h)
/-- each step is one of the order -/
theorem step_A (w : Wv L R sz n) {a b : Nat} (h : (a, b) ∈ steps L R sz (n - 1)) : ∃ x y, Ok sz n x ∧ Ok sz n y ∧ ps sz x = a ∧ ps sz y = b ∧ A L R x y := by
  have n0 := w.n0
  rcases mem_steps.mp h with h | ⟨c, h1, h2, h3⟩
  · cases h
    refine ⟨(0, 0), (0, 1), ⟨n0, by rw [w.s0]; decide⟩, ⟨n0, by rw [w.s0]; decide⟩, rfl, rfl, .same rfl (by decide)⟩
  · have hc : c < n := by omega
    have hs := w.s1 c h1 hc
    rcases mem_stepsOf.mp h3 with e | ⟨i, hi, e⟩ | e
    · cases e
      exact ⟨L c, (c, 0), w.okL h1 hc, ⟨hc, hs⟩, rfl, rfl, .lEq (w.l c h1 hc) rfl⟩
    · cases e
      exact ⟨(c, i), (c, i + 1), ⟨hc, by show i < sz c; omega⟩, ⟨hc, by show i + 1 < sz c; omega⟩, rfl, by unfold ps; show off sz c + (i + 1) = _; omega, .same rfl (by show i < i + 1; omega)⟩
    · cases e
      exact ⟨(c, sz c - 1), R c, ⟨hc, by show sz c - 1 < sz c; omega⟩, w.okR h1 hc, by unfold ps; show off sz c + (sz c - 1) = _; omega, rfl, .rEq (w.r c h1 hc) rfl⟩
theorem rch_row (w : Wv L R sz n) {c : Nat} (hc : c < n) : ∀ {i j : Nat}, i < j → j < sz c → Rch (steps L R sz (n - 1)) (off sz c + i) (off sz c + j) := by
  intro i j hij
  obtain ⟨d, rfl⟩ : ∃ d, j = i + 1 + d := ⟨j - (i + 1), by omega⟩
  clear hij
  have one : ∀ i, i + 1 < sz c → Rch (steps L R sz (n - 1)) (off sz c + i) (off sz c + i + 1) := by
    intro i hi
    refine ⟨1, .one (mem_steps.mpr ?_)⟩
    by_cases h0 : c = 0
    · subst h0
      have z := w.s0
      have e : i = 0 := by omega
      subst e
      exact .inl rfl
    · exact .inr ⟨c, by omega, by omega, mem_stepsOf.mpr (.inr (.inl ⟨i, by omega, rfl⟩))⟩
  induction d with
  | zero => intro h; exact one i h
  | succ d ih =>
    intro h
    have p := ih (by omega)
    have q := one (i + 1 + d) (by omega)
    exact p.tr q
theorem rch_A (w : Wv L R sz n) {x y : Sg} (a : A L R x y) : Ok sz n x → Ok sz n y → Rch (steps L R sz (n - 1)) (ps sz x) (ps sz y) := by
  have toR : ∀ {x : Sg}, Ok sz n x → 0 < x.1 → Rch (steps L R sz (n - 1)) (ps sz x) (ps sz (R x.1)) := by
    intro x hx h0
    have e : Rch (steps L R sz (n - 1)) (off sz x.1 + sz x.1 - 1) (ps sz (R x.1)) := ⟨1, .one (mem_steps.mpr (.inr ⟨x.1, h0, by have := hx.1; omega, mem_stepsOf.mpr (.inr (.inr rfl))⟩))⟩
    by_cases hl : x.2 = sz x.1 - 1
    · have e2 : ps sz x = off sz x.1 + sz x.1 - 1 := by unfold ps; have := hx.2; omega
      rw [e2]
      exact e
    · have p := rch_row w hx.1 (i := x.2) (j := sz x.1 - 1) (by have := hx.2; omega) (by have := hx.2; omega)
      have e2 : off sz x.1 + (sz x.1 - 1) = off sz x.1 + sz x.1 - 1 := by have := hx.2; omega
      rw [e2] at p
      exact p.tr e
  have toL : ∀ {y : Sg}, Ok sz n y → 0 < y.1 → Rch (steps L R sz (n - 1)) (ps sz (L y.1)) (ps sz y) := by
    intro y hy h0
    have e : Rch (steps L R sz (n - 1)) (ps sz (L y.1)) (off sz y.1) := ⟨1, .one (mem_steps.mpr (.inr ⟨y.1, h0, by have := hy.1; omega, mem_stepsOf.mpr (.inl rfl)⟩))⟩
    by_cases hl : y.2 = 0
    · have e2 : ps sz y = off sz y.1 := by unfold ps; omega
      rw [e2]
      exact e
    · exact e.tr (rch_row w hy.1 (i := 0) (j := y.2) (by omega) hy.2)
  induction a with
  | @same x y h i =>
    intro hx hy
    unfold ps
    rw [← h]
    exact rch_row w hx.1 i (by rw [h]; exact hy.2)
  | @rEq x y h e => intro hx hy; exact e ▸ toR hx (by omega)
  | @rGo x y h a ih => intro hx hy; exact (toR hx (by omega)).tr (ih (w.okR (by omega) hx.1) hy)
  | @lEq x y h e => intro hx hy; exact e ▸ toL hy (by omega)
  | @lGo x y h a ih => intro hx hy; exact (ih hx (w.okL (by omega) hy.1)).tr (toL hy (by omega))
theorem A_rch (w : Wv L R sz n) {x y : Sg} (hx : Ok sz n x) (hy : Ok sz n y) (p : Rch (steps L R sz (n - 1)) (ps sz x) (ps sz y)) : A L R x y := by
  obtain ⟨k, p⟩ := p
  have key : ∀ {k a b}, Pth (steps L R sz (n - 1)) k a b → ∃ u v, Ok sz n u ∧ Ok sz n v ∧ ps sz u = a ∧ ps sz v = b ∧ A L R u v := by
    intro k a b p
    induction p with
    | one h => exact step_A w h
    | step h p ih =>
      obtain ⟨u, v, h1, h2, h3, h4, h5⟩ := step_A w h
      obtain ⟨u', v', g1, g2, g3, g4, g5⟩ := ih
      have e := ps_inj h2 g1 (h4.trans g3.symm)
      subst e
      exact ⟨u, v', h1, g2, h3, g4, w.tr h1.1 h2.1 g2.1 h5 g5⟩
  obtain ⟨u, v, h1, h2, h3, h4, h5⟩ := key p
  have e1 := ps_inj hx h1 h3.symm
  have e2 := ps_inj hy h2 h4.symm
  subst e1 e2
  exact h5
theorem rch_iff (w : Wv L R sz n) {x y : Sg} (hx : Ok sz n x) (hy : Ok sz n y) : Rch (steps L R sz (n - 1)) (ps sz x) (ps sz y) ↔ A L R x y := ⟨A_rch w hx hy, fun a => rch_A w a hx hy⟩
theorem step_lt (w : Wv L R sz n) {a b : Nat} (h : (a, b) ∈ steps L R sz (n - 1)) : a < off sz n ∧ b < off sz n := by
  obtain ⟨x, y, hx, hy, rfl, rfl, _⟩ := step_A w h
  exact ⟨ps_lt hx, ps_lt hy⟩
theorem path_bound (w : Wv L R sz n) {k a b : Nat} (p : Pth (steps L R sz (n - 1)) k a b) : k + 1 ≤ off sz n := by
  refine Pth.bound (lt := fun a b => ∃ x y, Ok sz n x ∧ Ok sz n y ∧ ps sz x = a ∧ ps sz y = b ∧ A L R x y) (fun a b h => ⟨step_A w h, step_lt w h⟩) (fun a b c ha hb hc h1 h2 => ?_) (fun a h => ?_) p
  · obtain ⟨x, y, hx, hy, rfl, rfl, a1⟩ := h1
    obtain ⟨y', z, hy', hz, e, rfl, a2⟩ := h2
    have e' := ps_inj hy' hy e
    subst e'
    exact ⟨x, z, hx, hz, rfl, rfl, w.tr hx.1 hy.1 hz.1 a1 a2⟩
  · obtain ⟨x, y, hx, hy, rfl, e, a1⟩ := h
    have e' := ps_inj hy hx e
    subst e'
    exact A.irr a1
theorem steps_len (w : Wv L R sz n) : off sz n ≤ (steps L R sz (n - 1)).length + 1 := by
  have key : ∀ m, m < n → off sz (m + 1) ≤ (steps L R sz m).length + 1 := by
    intro m
    induction m with
    | zero =>
      intro _
      show 0 + sz 0 ≤ 1 + 1
      rw [w.s0]
      decide
    | succ m ih =>
      intro h
      have z := ih (by omega)
      show off sz (m + 1) + sz (m + 1) ≤ (steps L R sz m ++ stepsOf L R sz (m + 1)).length + 1
      rw [List.length_append]
      have e : (stepsOf L R sz (m + 1)).length = sz (m + 1) - 1 + 2 := by
        unfold stepsOf
        simp
      rw [e]
      omega
  have n0 := w.n0
  have z := key (n - 1) (by omega)
  rw [Nat.sub_add_cancel n0] at z
  exact z
/-- the table tells the order -/
def Tells (L R : Nat → Sg) (sz : Nat → Nat) (n : Nat) (T : List Nat) : Prop := T.length = off sz n ∧ ∀ x y, Ok sz n x → Ok sz n y → (Bit T (ps sz x) (ps sz y) ↔ A L R x y)
/-- the table under way: sound, all paths of at most r steps -/
structure Under (L R : Nat → Sg) (sz : Nat → Nat) (n : Nat) (T : List Nat) (r : Nat) : Prop where
  len : T.length = off sz n
  snd : ∀ a b, Bit T a b → Rch (steps L R sz (n - 1)) a b
  upto : Upto (steps L R sz (n - 1)) T r
theorem Under.zero : Under L R sz n (List.replicate (off sz n) 0) 0 := by
  refine ⟨List.length_replicate, fun a b h => ?_, fun k a b p hk => ?_⟩
  · exfalso
    unfold Bit at h
    have e : (List.replicate (off sz n) 0).getD a 0 = 0 := by
      simp [List.getD, List.getElem?_replicate]
      split <;> rfl
    rw [e] at h
    simp at h
  · cases p <;> omega
theorem Under.fst (w : Wv L R sz n) {T : List Nat} {r : Nat} (u : Under L R sz n T r) : ∀ e ∈ steps L R sz (n - 1), e.1 < T.length := fun e he => by
  rw [u.len]
  exact (step_lt w (a := e.1) (b := e.2) he).1
theorem Under.lap (w : Wv L R sz n) {T : List Nat} {r : Nat} (u : Under L R sz n T r) : Under L R sz n (lap (steps L R sz (n - 1)) T) (r + 1) :=
  ⟨(lap_len _ _).trans u.len, lap_sound _ (fun _ h => h) (u.fst w) u.snd, u.upto.lap (u.fst w)⟩
theorem Under.done (w : Wv L R sz n) {T : List Nat} {r : Nat} (u : Under L R sz n T r) (h : off sz n ≤ r + 1) : Tells L R sz n T :=
  ⟨u.len, fun x y hx hy => ⟨fun b => A_rch w hx hy (u.snd _ _ b), fun a => by
    obtain ⟨k, p⟩ := rch_A w a hx hy
    have z := path_bound w p
    exact u.upto k _ _ p (by omega)⟩⟩
theorem Under.still (w : Wv L R sz n) {T : List Nat} {r : Nat} (u : Under L R sz n T r) (h : ∀ a b c, (a, b) ∈ steps L R sz (n - 1) → c = b ∨ Bit T b c → Bit T a c) : Tells L R sz n T :=
  ⟨u.len, fun x y hx hy => ⟨fun b => A_rch w hx hy (u.snd _ _ b), fun a => still_all (u.fst w) h (rch_A w a hx hy)⟩⟩
end
end Tl

namespace Dk
open PySem PySem.Spec PyProof.Rows L2
/-! ### what never runs -/
def tNv : TE := fun _ _ _ => False
theorem pe_never {X : Cx} {e : Expr} : PE X e tNv := ⟨fun _ _ _ _ _ _ h => h.elim⟩
/-! ### keywords alone -/
section
variable {X : Cx} {CX : CXT} {k : Nat} {f : Addr} {fd : FuncData} {ps ks : List Str} {sp : Sp} {E : XK} {x : Str} {p pos : Pos} {kws : List Keyword} {tk : TA} {g : List Value → List Value → List Value} {gV : List V → List V → List V}
def tCallK0 (sp : Sp) (gV : List V → List V → List V) (E : XK) (tk : TA) : TE := fun σ H Q => tk σ H fun zs H2 => sp (gV [] zs) H2 Q E
theorem pe_callK0 (F : FnOk X.prog X.w X.K X.mg X.base CX k f fd ps sp) (hr : Room k X.A) (hg : Gl X x) (hm : X.mg x = some (.ref f)) (hk : PySem.W.keepIn X.K (.ref f) = true) (hb : KBinds X.K fd ps ks g gV) (hx : Passes CX X E)
    (hkw : PK X kws tk) (hall : (backToKw pos (keywordEach kws X.env)).all (·.1.isSome) = true := by rfl) (hks : (backToKw pos (keywordEach kws X.env)).filterMap (·.1) = ks := by rfl)
    (hdb : (x == ("__debug__" : Str)) = false := by decide)
    (hpl : ((backTo pos (starEach [] X.env)).any (·.1) || (backToKw pos (keywordEach kws X.env)).any (·.1.isNone)) = false := by rfl) :
    PE X (.Call (.Name x p) [] kws pos) (tCallK0 sp gV E tk) := by
  refine ⟨fun pins s σ H Q I h => ?_⟩
  refine wpAny_Call_Name_kw (ld_glob I hg hm ?_ hdb)
  refine PySem.W.callWith_KW0 (h₀ := X.base) I.ok.mod.kin hk hall (thn (hkw.run pos pins s σ H _ I h) fun ws s2 ⟨zs, H2, I2, rz, q2⟩ => ⟨I2.kIn, ?_⟩) hpl
  rw [hks]
  exact run_fnk (us := []) (vs := []) F hr hb hx I2 .nil rz q2
theorem r_callK0 {σ : L2.St} {H : Hp} {Q : VK} (h : tk σ H fun zs H2 => sp (gV [] zs) H2 Q E) : tCallK0 sp gV E tk σ H Q := h
end
/-- three values put in another order -/
def p201 {α : Type} : List α → List α → List α
  | [], [a, b, c] => [b, c, a]
  | _, _ => []
def p210 {α : Type} : List α → List α → List α
  | [], [a, b, c] => [c, b, a]
  | _, _ => []
def p120 {α : Type} : List α → List α → List α
  | [], [a, b, c] => [c, a, b]
  | _, _ => []
theorem p201_rel {vs zs : List V} {us ws : List Value} (r : Vals vs us) (q : Vals zs ws) : Vals (p201 vs zs) (p201 us ws) := by
  cases r with
  | cons => exact .nil
  | nil => rcases q with _ | ⟨a, _ | ⟨b, _ | ⟨c, _ | _⟩⟩⟩
           · exact .nil
           · exact .nil
           · exact .nil
           · exact .cons b (.cons c (.cons a .nil))
           · exact .nil
theorem p210_rel {vs zs : List V} {us ws : List Value} (r : Vals vs us) (q : Vals zs ws) : Vals (p210 vs zs) (p210 us ws) := by
  cases r with
  | cons => exact .nil
  | nil => rcases q with _ | ⟨a, _ | ⟨b, _ | ⟨c, _ | _⟩⟩⟩
           · exact .nil
           · exact .nil
           · exact .nil
           · exact .cons c (.cons b (.cons a .nil))
           · exact .nil
theorem p120_rel {vs zs : List V} {us ws : List Value} (r : Vals vs us) (q : Vals zs ws) : Vals (p120 vs zs) (p120 us ws) := by
  cases r with
  | cons => exact .nil
  | nil => rcases q with _ | ⟨a, _ | ⟨b, _ | ⟨c, _ | _⟩⟩⟩
           · exact .nil
           · exact .nil
           · exact .nil
           · exact .cons c (.cons a (.cons b .nil))
           · exact .nil
def rAbs : List V → Hp → VK → Prop := fun xs H Q => ∃ i, xs = [.int i] ∧ Q (.int (if i < 0 then -i else i)) H
theorem call_absU {X : Cx} : CallR X (.builtin "abs") rAbs := call_abs
/-! ### steps -/
section
variable {K : PySem.W.Frag} {σ : L2.St} {H H' : Hp} {Q : VK} {v x y : V} {i j : Int}
theorem r_bool {b : Bool} (q : Q (.int (if b then 1 else 0)) H) : rInt1 [.bl b] H Q := .inr ⟨b, rfl, q⟩
theorem r_abs (q : Q (.int (i.natAbs : Nat)) H) : rAbs [.int i] H Q := ⟨i, rfl, by
  have e : (if i < 0 then -i else i) = (i.natAbs : Int) := by split <;> omega
  rw [e]
  exact q⟩
theorem r_catT {p q : Addr} {xs ys : List V} (hp : SqT K H p xs) (hq : SqT K H q ys) (nx : xs ≠ []) (ny : ys ≠ []) (hz : xs.length + ys.length ≤ 1000) (k : ∀ l, H l = none → Q (.ref l) (upd H l (.tup (xs ++ ys)))) : rAddU K (.ref p) (.ref q) H Q :=
  .inr (.inr (.inr ⟨p, q, xs, ys, rfl, rfl, hp, hq, by rw [sizeLine_eq]; omega, fun z => absurd z nx, fun _ z => absurd z ny, fun _ _ => k⟩))
theorem r_pop0 {p : Addr} {xs : List V} (h : H p = some (.lst (x :: xs))) (q : Q x (upd H p (.lst xs))) : rPopAt (.ref p) [.int 0] H Q :=
  ⟨p, x :: xs, 0, 0, x, rfl, rfl, h, by decide, by decide, by
    show (if _ then _ else _) = _
    simp, rfl, q⟩
theorem r_isiT2 {a n m : String} {b c : Bool} {tp : Addr} (hT : H tp = some (.tup [.ty n, .ty m])) (ty : TyX K H x (.type a)) (e1 : kitB a n = some b) (e2 : kitB a m = some c) (q : Q (.bl (b || c)) H) : rIsiT K [x, .ref tp] H Q := by
  refine ⟨x, tp, [.ty n, .ty m], .type a, [.type n, .type m], b || c, rfl, hT, .cons (.ty n) (.cons (.ty m) .nil), ty, ?_, q⟩
  refine kitAny_cons (kit_ty e1) (r := b || c) (fun hb => ?_) (fun hb => by rw [hb]; rfl)
  subst hb
  refine kitAny_cons (kit_ty e2) (fun hc => ?_) (fun hc => by rw [hc]; rfl)
  subst hc
  exact kitAny_nil
end
theorem r_eqP {x y : V} {H : Hp} {Q : VK} (h : scal x y = true) (q : Q (.bl (decide (x = y))) H) : rEq x y H Q := ⟨h, q⟩
theorem r_gunl {K : PySem.W.Frag} {σ : L2.St} {H : Hp} {N : L2.St → Hp → Prop} {vs : List V} {u : TGs} {n : Nat} {a : Addr} (h : SqL K H a vs) (hl : vs.length = n) (k : u vs σ H N) : gUnl K n u (.ref a) σ H N := ⟨a, vs, rfl, h, hl, k⟩
theorem r_slT {K : PySem.W.Frag} {H : Hp} {Q : VK} {p : Addr} {xs : List V} {n : Nat} (h : SqT K H p xs) (k1 : xs.length ≤ n → Q (.ref p) H) (k2 : ∀ l, H l = none → Q (.ref l) (upd H l (.tup (xs.take n)))) : rSlU K (.ref p) none (some (n : Int)) H Q := by
  refine .inr (.inr ⟨p, xs, rfl, h, fun z => k1 ?_, fun _ l hl => ?_⟩)
  · have e := z.2
    rw [HT.sIx_nat] at e
    omega
  · rw [cutV_to]
    exact k2 l hl
theorem cutV_from (xs : List V) (n : Nat) : cutV xs (some (n : Int)) none = xs.drop n := by
  unfold cutV
  rw [HT.sIx_nat, HT.sIx_none]
  by_cases h : n ≤ xs.length
  · rw [Nat.min_eq_left h, List.take_of_length_le (by rw [List.length_drop]; omega)]
  · rw [Nat.min_eq_right (by omega), Nat.sub_self, List.take_zero, List.drop_eq_nil_of_le (by omega)]
theorem r_break {σ : L2.St} {H : Hp} {D : Ends} (q : D.bk σ H) : tBreak D σ H := q
theorem r_yes {σ : L2.St} {H : Hp} {QB : Bool → Hp → Prop} (q : QB true H) : tYes σ H QB := q
theorem _root_.L2.Room.units65 {k : Nat} {A : Around} (r : L2.Room k A) : A.units + 65 < cLine := by
  have := r.un
  omega
theorem r_lcRo {ta : TA} {g : TG} {tt : TT} {te : TE} {vs : List Nat} {σ : L2.St} {H : Hp} {Q : VK} (h : ta σ H fun us H1 => ∃ j : Int, us = [.int j] ∧ -(2 ^ 62) ≤ j ∧ j < 2 ^ 62 ∧ ∀ D, H1 D = none → ∃ W : Nat → Nat → Hp → Prop, (∃ m, W 0 m (upd H1 D (.lst []))) ∧ ∀ i m H, W i m H →
  ((Itr 0 j.toNat).stop i H ∧ Q (.ref D) H) ∨ ((Itr 0 j.toNat).go i H ∧ ∃ Nx : Hp → Prop, (∀ H', Nx H' → ∃ m', m' < m ∧ W (i + 1) m' H') ∧ ∀ x H', (Itr 0 j.toNat).yld i H x H' → g x (wipe σ vs) H' fun σ2 H2 => wipe σ2 vs = wipe σ vs ∧ tt σ2 H2 fun b H3 =>
    if b = true then te σ2 H3 fun y H4 => ∃ acc, H4 D = some (.lst acc) ∧ acc.length < sizeLine ∧ Nx (upd H4 D (.lst (acc ++ [y]))) else Nx H3)) : tLc (iRng1 ta) g tt te vs σ H Q := h
/-- [.. for x in range(n)] -/
theorem l_lcR {n : Int} {g : TG} {tt : TT} {te : TE} {vs : List Nat} {σ : L2.St} {H1 : Hp} {Qd : Addr → Hp → Prop} (n0 : -1000000 ≤ n) (n1 : n ≤ 1000000) (Pv : Addr → Nat → Hp → Prop) (h0 : ∀ D, H1 D = none → Pv D 0 (upd H1 D (.lst [])))
    (hs : ∀ D (i : Nat) H, H1 D = none → (i : Int) < n → Pv D i H → g (.int (i : Nat)) (wipe σ vs) H fun σ2 H2 => wipe σ2 vs = wipe σ vs ∧ tt σ2 H2 fun b H3 =>
      if b = true then te σ2 H3 fun y H4 => ∃ acc, H4 D = some (.lst acc) ∧ acc.length < sizeLine ∧ Pv D (i + 1) (upd H4 D (.lst (acc ++ [y]))) else Pv D (i + 1) H3) (hd : ∀ D H, H1 D = none → Pv D n.toNat H → Qd D H) :
    ∃ j : Int, [V.int n] = [.int j] ∧ -(2 ^ 62) ≤ j ∧ j < 2 ^ 62 ∧ ∀ D, H1 D = none → ∃ W : Nat → Nat → Hp → Prop, (∃ m, W 0 m (upd H1 D (.lst []))) ∧ ∀ i m H, W i m H →
  ((Itr 0 j.toNat).stop i H ∧ Qd D H) ∨ ((Itr 0 j.toNat).go i H ∧ ∃ Nx : Hp → Prop, (∀ H', Nx H' → ∃ m', m' < m ∧ W (i + 1) m' H') ∧ ∀ x H', (Itr 0 j.toNat).yld i H x H' → g x (wipe σ vs) H' fun σ2 H2 => wipe σ2 vs = wipe σ vs ∧ tt σ2 H2 fun b H3 =>
    if b = true then te σ2 H3 fun y H4 => ∃ acc, H4 D = some (.lst acc) ∧ acc.length < sizeLine ∧ Nx (upd H4 D (.lst (acc ++ [y]))) else Nx H3) := by
  refine ⟨n, rfl, by omega, by omega, fun D hD => lc_range (lo := 0) (Pv D) (h0 D hD) (fun i H hi p => ?_) fun H p => hd D H hD p⟩
  have z := hs D i H hD (by omega) p
  rw [Int.zero_add]
  exact z
/-- for c in range(1, n) -/
theorem l_R1n {n : Nat} {g : TG} {tb : TS} {σ : L2.St} {H : Hp} {D : Ends} (h1 : 1 ≤ n) (h2 : n ≤ 1000000) (Pv : Nat → L2.St → Hp → Prop) (p0 : Pv 1 σ H)
    (ht : ∀ (c : Nat) σ H, 1 ≤ c → c < n → Pv c σ H → g (.int (c : Nat)) σ H fun σ2 H2 => tb { D with nx := Pv (c + 1), ct := Pv (c + 1), bk := D.nx } σ2 H2) (hd : ∀ σ H, Pv n σ H → D.nx σ H) :
    ∃ i j : Int, [V.int 1, V.int (n : Nat)] = [.int i, .int j] ∧ (-(2 ^ 62) ≤ i ∧ i < 2 ^ 62 ∧ -(2 ^ 62) ≤ j ∧ j < 2 ^ 62) ∧ LoopW (Itr i (j - i).toNat) g tb D σ H := by
  refine ⟨1, n, rfl, ⟨by omega, by omega, by omega, by omega⟩, for_range (fun i => Pv (i + 1)) p0 (fun i σ H hi p => ?_) fun σ H p => hd σ H ?_⟩
  · have z := ht (i + 1) σ H (by omega) (by omega) p
    rw [show (1 : Int) + (i : Nat) = ((i + 1 : Nat) : Int) by omega]
    exact z
  · have e : ((n : Int) - 1).toNat + 1 = n := by omega
    rw [e] at p
    exact p
theorem r_lcLo {K : PySem.W.Frag} {tl : TE} {g : TG} {tt : TT} {te : TE} {vs : List Nat} {σ : L2.St} {H : Hp} {Q : VK} (h : tl σ H fun x H1 => ∃ a, x = .ref a ∧ (∃ xs, SqL K H1 a xs) ∧ ∀ D, H1 D = none → ∃ W : Nat → Nat → Hp → Prop, (∃ m, W 0 m (upd H1 D (.lst []))) ∧ ∀ i m H, W i m H →
  ((Itl K a).stop i H ∧ Q (.ref D) H) ∨ ((Itl K a).go i H ∧ ∃ Nx : Hp → Prop, (∀ H', Nx H' → ∃ m', m' < m ∧ W (i + 1) m' H') ∧ ∀ x H', (Itl K a).yld i H x H' → g x (wipe σ vs) H' fun σ2 H2 => wipe σ2 vs = wipe σ vs ∧ tt σ2 H2 fun b H3 =>
    if b = true then te σ2 H3 fun y H4 => ∃ acc, H4 D = some (.lst acc) ∧ acc.length < sizeLine ∧ Nx (upd H4 D (.lst (acc ++ [y]))) else Nx H3)) : tLc (iList K tl) g tt te vs σ H Q := h
theorem l_lcL {K : PySem.W.Frag} {a : Addr} {xs : List V} {g : TG} {tt : TT} {te : TE} {vs : List Nat} {σ : L2.St} {H1 : Hp} {Qd : Addr → Hp → Prop} (hs0 : SqL K H1 a xs) (Pv : Addr → Nat → Hp → Prop) (h0 : ∀ D, H1 D = none → Pv D 0 (upd H1 D (.lst []))) (hl : ∀ D i H, Pv D i H → SqL K H a xs)
    (hs : ∀ D (i : Nat) x H, H1 D = none → xs[i]? = some x → Pv D i H → g x (wipe σ vs) H fun σ2 H2 => wipe σ2 vs = wipe σ vs ∧ tt σ2 H2 fun b H3 =>
      if b = true then te σ2 H3 fun y H4 => ∃ acc, H4 D = some (.lst acc) ∧ acc.length < sizeLine ∧ Pv D (i + 1) (upd H4 D (.lst (acc ++ [y]))) else Pv D (i + 1) H3) (hd : ∀ D H, H1 D = none → Pv D xs.length H → Qd D H) :
    ∃ b, V.ref a = .ref b ∧ (∃ xs, SqL K H1 b xs) ∧ ∀ D, H1 D = none → ∃ W : Nat → Nat → Hp → Prop, (∃ m, W 0 m (upd H1 D (.lst []))) ∧ ∀ i m H, W i m H →
  ((Itl K b).stop i H ∧ Qd D H) ∨ ((Itl K b).go i H ∧ ∃ Nx : Hp → Prop, (∀ H', Nx H' → ∃ m', m' < m ∧ W (i + 1) m' H') ∧ ∀ x H', (Itl K b).yld i H x H' → g x (wipe σ vs) H' fun σ2 H2 => wipe σ2 vs = wipe σ vs ∧ tt σ2 H2 fun b H3 =>
    if b = true then te σ2 H3 fun y H4 => ∃ acc, H4 D = some (.lst acc) ∧ acc.length < sizeLine ∧ Nx (upd H4 D (.lst (acc ++ [y]))) else Nx H3) :=
  ⟨a, rfl, ⟨xs, hs0⟩, fun D hD => lc_list (Pv D) (h0 D hD) (fun i H _ p => hl D i H p) (fun i x H hx p => hs D i x H hD hx p) fun H p => hd D H hD p⟩
/-- a test whose outcome does not matter -/
theorem any_test {tt : TT} {σ : L2.St} {H : Hp} {QB : Bool → Hp → Prop} {S : Bool → Hp → Prop} (h : ∀ QB : Bool → Hp → Prop, (∀ c H1, S c H1 → QB c H1) → tt σ H QB) (k : ∀ c H1, S c H1 → QB c H1) : tt σ H QB := h QB k
theorem any_val {te : TE} {σ : L2.St} {H : Hp} {Q : VK} {S : V → Hp → Prop} (h : ∀ Q : VK, (∀ v H1, S v H1 → Q v H1) → te σ H Q) (k : ∀ v H1, S v H1 → Q v H1) : te σ H Q := h Q k
/-! ### bits -/
theorem or_val (x b y : Nat) : Builtin.bitOr (Builtin.bitOr (x : Int) (1 * 2 ^ ((b : Int)).toNat)) (y : Int) = ((x ||| 1 <<< b ||| y : Nat) : Int) := by
  have e : (1 * 2 ^ ((b : Int)).toNat : Int) = ((1 <<< b : Nat) : Int) := by
    rw [Int.toNat_natCast, Nat.one_shiftLeft]
    push_cast
    omega
  have e1 : Builtin.bitOr (x : Int) ((1 <<< b : Nat) : Int) = ((x ||| 1 <<< b : Nat) : Int) := by
    rw [Bits.bitOr_pp (Int.natCast_nonneg _) (Int.natCast_nonneg _), Int.toNat_natCast, Int.toNat_natCast]
  rw [e, e1, Bits.bitOr_pp (Int.natCast_nonneg _) (Int.natCast_nonneg _), Int.toNat_natCast, Int.toNat_natCast]
theorem bit_val (x k : Nat) : decide (V.int (Builtin.bitAnd ((x : Int) / 2 ^ ((k : Int)).toNat) 1) = V.int 1) = x.testBit k := by
  have e : Builtin.bitAnd ((x : Int) / 2 ^ ((k : Int)).toNat) 1 = (x : Int) / 2 ^ k % 2 := by
    have z := Bits.bit_at (x := (x : Int)) k
    have hp : (0 : Int) ≤ 2 ^ k := Int.pow_nonneg (by decide)
    rw [Int.fdiv_eq_ediv_of_nonneg _ hp] at z
    rw [Int.toNat_natCast]
    exact z
  rw [e, Bool.eq_iff_iff, decide_eq_true_iff, Nat.testBit_eq_decide_div_mod_eq, decide_eq_true_iff]
  have e2 : (x : Int) / 2 ^ k % 2 = ((x / 2 ^ k % 2 : Nat) : Int) := by push_cast; rfl
  rw [e2]
  constructor
  · intro h
    have := V.int.inj h
    omega
  · intro h
    rw [h]
    rfl
/-! ### the box of the draws: a number and a list of heaps -/
def M31 : Int := 2147483629
structure Bx (H : Hp) (b h : Addr) : Prop where
  ne : b ≠ h
  ex : ∃ (z : Int) (ns : List Int), H b = some (.lst [.int z, .ref h]) ∧ 0 ≤ z ∧ z < M31 ∧ H h = some (.lst (ns.map V.int)) ∧ ns.length ≤ 63
structure Dr2 (b h : Addr) (H H' : Hp) : Prop where
  hh : ∀ x o, x ≠ b → x ≠ h → H x = some o → H' x = some o
  st : Bx H' b h
abbrev A2 (b h : Addr) : Addr → Prop := fun x => x = b ∨ x = h
structure W2 (b h : Addr) (G H : Hp) : Prop where
  g : Ex G H
  nb : G b = none
  nh : G h = none
  st : Bx H b h
section
variable {A : Addr → Prop} {b h p : Addr} {G H G1 H1 H2 : Hp} {o : HO}
theorem Bx.gb (s : Bx H b h) : ∃ o, H b = some o := by
  obtain ⟨_, z, ns, h1, _⟩ := s
  exact ⟨_, h1⟩
theorem Bx.gh (s : Bx H b h) : ∃ o, H h = some o := by
  obtain ⟨_, z, ns, _, _, _, h1, _⟩ := s
  exact ⟨_, h1⟩
theorem Bx.up (s : Bx H b h) (e : Ex H H1) : Bx H1 b h := by
  obtain ⟨n, z, ns, h1, h2, h3, h4, h5⟩ := s
  exact ⟨n, z, ns, e _ _ h1, h2, h3, e _ _ h4, h5⟩
theorem Bx.nb (s : Bx H b h) (hp : H p = none) : p ≠ b := fun z => by
  obtain ⟨o, e⟩ := s.gb
  rw [← z, hp] at e
  cases e
theorem Bx.nh (s : Bx H b h) (hp : H p = none) : p ≠ h := fun z => by
  obtain ⟨o, e⟩ := s.gh
  rw [← z, hp] at e
  cases e
theorem Bx.put (s : Bx H b h) (h1 : p ≠ b) (h2 : p ≠ h) : Bx (upd H p o) b h := by
  obtain ⟨n, z, ns, e1, e2, e3, e4, e5⟩ := s
  exact ⟨n, z, ns, by rw [upd_ne (Ne.symm h1)]; exact e1, e2, e3, by rw [upd_ne (Ne.symm h2)]; exact e4, e5⟩
theorem Bx.na (s : Bx H b h) (hp : H p = none) : ¬ A2 b h p := fun z => z.elim (s.nb hp) (s.nh hp)
theorem Dr2.refl (s : Bx H b h) : Dr2 b h H H := ⟨fun _ _ _ _ e => e, s⟩
theorem Dr2.trans (x : Dr2 b h H H1) (y : Dr2 b h H1 H2) : Dr2 b h H H2 := ⟨fun u o n m e => y.hh u o n m (x.hh u o n m e), y.st⟩
theorem Dr2.ex (s : Bx H b h) (e : Ex H H1) : Dr2 b h H H1 := ⟨fun u o _ _ q => e u o q, s.up e⟩
theorem Dr2.then (x : Dr2 b h H H1) (e : Ex H1 H2) : Dr2 b h H H2 := x.trans (.ex x.st e)
theorem Dr2.new (x : Dr2 b h H H1) (hp : H1 p = none) : Dr2 b h H (upd H1 p o) := x.then (Same.new (Same.refl H1) hp)
theorem Dr2.mut (x : Dr2 b h H H1) (hp : H p = none) (h1 : p ≠ b) (h2 : p ≠ h) : Dr2 b h H (upd H1 p o) :=
  ⟨fun u q n m e => by rw [upd_ne (ne_of_none e hp)]; exact x.hh u q n m e, x.st.put h1 h2⟩
theorem Dr2.fresh (x : Dr2 b h H H1) (hp : H1 p = none) : H p = none := by
  cases e : H p with
  | none => rfl
  | some o =>
    rw [x.hh p o (x.st.nb hp) (x.st.nh hp) e] at hp
    cases hp
theorem Dr2.gr (g : Ex G H) (nb : G b = none) (nh : G h = none) (s : Bx H b h) (d : Dr2 b h H H1) : Gr (A2 b h) G H G H1 where
  gg := Same.refl G
  gh := fun u x e => d.hh u x (ne_of_none e nb) (ne_of_none e nh) (g u x e)
  hh := fun u x z e => d.hh u x (fun q => z (.inl q)) (fun q => z (.inr q)) e
  th := fun u x e => by
    by_cases h1 : u = b
    · rw [h1]
      exact d.st.gb
    by_cases h2 : u = h
    · rw [h2]
      exact d.st.gh
    exact ⟨x, d.hh u x h1 h2 e⟩
  nw := fun u x e z => z
theorem W2.nb1 (x : W2 b h G H) (t : Gr A G H G1 H1) : G1 b = none := by
  obtain ⟨o, e⟩ := x.st.gb
  exact t.nw b _ e x.nb
theorem W2.nh1 (x : W2 b h G H) (t : Gr A G H G1 H1) : G1 h = none := by
  obtain ⟨o, e⟩ := x.st.gh
  exact t.nw h _ e x.nh
theorem W2.step (x : W2 b h G H) (t : Gr (A2 b h) G H G1 H1) (s : Bx H1 b h) : W2 b h G1 H1 := ⟨t.gh, x.nb1 t, x.nh1 t, s⟩
theorem W2.pure (x : W2 b h G H) (t : Gr A0 G H G1 H1) : W2 b h G1 H1 := ⟨t.gh, x.nb1 t, x.nh1 t, x.st.up t.same⟩
theorem W2.ex (x : W2 b h G H) (e : Ex H H1) : W2 b h G H1 := ⟨x.g.trans e, x.nb, x.nh, x.st.up e⟩
theorem W2.gdr (x : W2 b h G H) (d : Dr2 b h H H1) : Gr (A2 b h) G H G H1 := Dr2.gr x.g x.nb x.nh x.st d
theorem W2.dr (x : W2 b h G H) (d : Dr2 b h H H1) : W2 b h G H1 := x.step (x.gdr d) d.st
end
def spPick : Sp := fun vs H Q _ => ∃ (b h : Addr) (n : Int), vs = [.ref b, .int n] ∧ Bx H b h ∧ 0 < n ∧ n ≤ 1000 ∧ ∀ (d : Int) H', 0 ≤ d → d < n → Dr2 b h H H' → Q (.int d) H'
def spDraws (K : PySem.W.Frag) : Sp := fun vs H Q _ => ∃ (s : Addr) (ns : List Int), vs = [.ref s] ∧ SqL K H s (ns.map V.int) ∧ ns.length ≤ 63 ∧ ∀ b h H', Ex H H' → H b = none → H h = none → Bx H' b h → Q (.ref b) H'
def spSay : Sp := fun vs H Q _ => ∃ (b h : Addr) (n : Int), vs = [.ref b, .int n] ∧ Bx H b h ∧ 0 < n ∧ n ≤ 100 ∧ ∀ (t : Str) H', 0 < t.length → (t.length : Int) ≤ n → Dr2 b h H H' → Q (.str t) H'
theorem nat31 {z : Int} (h0 : 0 ≤ z) (h : z < M31) : z.natAbs < 2 ^ 31 := by
  unfold M31 at h
  have e : (2 : Nat) ^ 31 = 2147483648 := by decide
  omega
theorem mix31 (e : Int) : 0 ≤ e % M31 ∧ e % M31 < M31 := ⟨Int.emod_nonneg _ (by decide), Int.emod_lt_of_pos _ (by decide)⟩
/-! ### signs -/
def Tk (H H' : Hp) : Prop := ∀ p xs, H p = some (.tup xs) → H' p = some (.tup xs)
/-- a tuple, of the heap or of the written part -/
def KT (K : PySem.W.Frag) (a : Addr) (xs : List V) : Prop := ∃ (o : Obj) (its : Array Value) (n : Nat), K.lookup a = some o ∧ o.cls = .type "tuple" ∧ o.data = .seq its n ∧ its.size ≤ sizeLine ∧ Vals xs its.toList
def Tu (K : PySem.W.Frag) (H : Hp) (a : Addr) (xs : List V) : Prop := H a = some (.tup xs) ∨ KT K a xs
theorem Tu.sq {K : PySem.W.Frag} {H : Hp} {a : Addr} {xs : List V} (h : Tu K H a xs) : SqT K H a xs := h.elim (fun z => sqT z) fun z => .inr z
theorem Tu.tk {K : PySem.W.Frag} {H H' : Hp} {a : Addr} {xs : List V} (t : Tk H H') (h : Tu K H a xs) : Tu K H' a xs := h.imp (fun z => t _ _ z) id
theorem Tu.up {K : PySem.W.Frag} {H H' : Hp} {a : Addr} {xs : List V} (e : Ex H H') (h : Tu K H a xs) : Tu K H' a xs := h.imp (fun z => e _ _ z) id
/-- a sign's two numbers; only signs of the border may be of the written part -/
def Ts (K : PySem.W.Frag) (H : Hp) (a : Addr) (x : Tl.Sg) : Prop := H a = some (.tup [.int (x.1 : Nat), .int (x.2 : Nat)]) ∨ (x.1 = 0 ∧ KT K a [.int (x.1 : Nat), .int (x.2 : Nat)])
theorem Ts.sq {K : PySem.W.Frag} {H : Hp} {a : Addr} {x : Tl.Sg} (h : Ts K H a x) : SqT K H a [.int (x.1 : Nat), .int (x.2 : Nat)] := h.elim (fun z => sqT z) fun z => .inr z.2
theorem Ts.tu {K : PySem.W.Frag} {H : Hp} {a : Addr} {x : Tl.Sg} (h : Ts K H a x) : Tu K H a [.int (x.1 : Nat), .int (x.2 : Nat)] := h.elim (fun z => .inl z) fun z => .inr z.2
theorem Ts.tk {K : PySem.W.Frag} {H H' : Hp} {a : Addr} {x : Tl.Sg} (t : Tk H H') (h : Ts K H a x) : Ts K H' a x := h.imp (fun z => t _ _ z) id
theorem Ts.up {K : PySem.W.Frag} {H H' : Hp} {a : Addr} {x : Tl.Sg} (e : Ex H H') (h : Ts K H a x) : Ts K H' a x := h.imp (fun z => e _ _ z) id
theorem Ts.own {K : PySem.W.Frag} {H : Hp} {a : Addr} {x : Tl.Sg} (h : Ts K H a x) (h0 : 0 < x.1) : H a = some (.tup [.int (x.1 : Nat), .int (x.2 : Nat)]) := h.elim id fun z => absurd z.1 (by omega)
def SgV (K : PySem.W.Frag) (G : Hp) (v : V) (x : Tl.Sg) : Prop := ∃ p, v = .ref p ∧ Ts K G p x
theorem SgV.up {K : PySem.W.Frag} {G G' : Hp} {v : V} {x : Tl.Sg} (e : Ex G G') (h : SgV K G v x) : SgV K G' v x := h.imp fun _ z => ⟨z.1, z.2.up e⟩
abbrev sgD (x : Tl.Sg) : PyData := .tuple [.int (x.1 : Nat), .int (x.2 : Nat)]
theorem SgV.dp {K : PySem.W.Frag} {G : Hp} {v : V} {x : Tl.Sg} (h : SgV K G v x) : Dp K G v (sgD x) := by
  obtain ⟨p, rfl, hp⟩ := h
  exact .tup hp.sq (.cons (.int _) (.cons (.int _) .nil))
theorem sg_shaped (x : Tl.Sg) : SeqAt.shaped (sgD x) = true := by
  rfl
theorem sg_eqv (x y : Tl.Sg) : PyData.eqv (sgD x) (sgD y) = decide (x = y) := by
  obtain ⟨a, b⟩ := x
  obtain ⟨c, d⟩ := y
  show (PyData.eqv (.int a) (.int c) && (PyData.eqv (.int b) (.int d) && true)) = _
  show (((a : Int) == c) && (((b : Int) == d) && true)) = _
  rw [Bool.eq_iff_iff]
  simp
  omega
theorem r_eqSg {K : PySem.W.Frag} {H : Hp} {Q : VK} {v w : V} {x y : Tl.Sg} (h1 : SgV K H v x) (h2 : SgV K H w y) (q : Q (.bl (decide (x = y))) H) : rEqU K v w H Q :=
  .inr ⟨_, _, h1.dp, h2.dp, sg_shaped x, sg_shaped y, by rw [sg_eqv]; exact q⟩
/-! ### two lists side by side -/
inductive P2 {α β : Type} (R : α → β → Prop) : List α → List β → Prop where
  | nil : P2 R [] []
  | cons {a : α} {b : β} {l : List α} {m : List β} (h : R a b) (t : P2 R l m) : P2 R (a :: l) (b :: m)
section
variable {α β : Type} {R S : α → β → Prop} {l l' : List α} {m m' : List β}
theorem P2.len (h : P2 R l m) : l.length = m.length := by
  induction h with
  | nil => rfl
  | cons h t ih => rw [List.length_cons, List.length_cons, ih]
theorem P2.get (h : P2 R l m) : ∀ {i : Nat} {a : α}, l[i]? = some a → ∃ b, m[i]? = some b ∧ R a b := by
  induction h with
  | nil => intro i a e; simp at e
  | @cons a b l m h t ih =>
    intro i x e
    cases i with
    | zero => exact ⟨b, rfl, by simp at e; exact e ▸ h⟩
    | succ i =>
      simp at e
      simpa using ih e
theorem P2.get' (h : P2 R l m) : ∀ {i : Nat} {b : β}, m[i]? = some b → ∃ a, l[i]? = some a ∧ R a b := by
  induction h with
  | nil => intro i a e; simp at e
  | @cons a b l m h t ih =>
    intro i x e
    cases i with
    | zero => exact ⟨a, rfl, by simp at e; exact e ▸ h⟩
    | succ i =>
      simp at e
      simpa using ih e
theorem P2.imp (h : P2 R l m) (k : ∀ a b, R a b → S a b) : P2 S l m := by
  induction h with
  | nil => exact .nil
  | cons h t ih => exact .cons (k _ _ h) ih
theorem P2.app (h : P2 R l m) (h' : P2 R l' m') : P2 R (l ++ l') (m ++ m') := by
  induction h with
  | nil => exact h'
  | cons h t ih => exact .cons h ih
theorem P2.snoc {a : α} {b : β} (h : P2 R l m) (k : R a b) : P2 R (l ++ [a]) (m ++ [b]) := h.app (.cons k .nil)
theorem P2.take (h : P2 R l m) : ∀ n, P2 R (l.take n) (m.take n) := by
  induction h with
  | nil => intro n; simp; exact .nil
  | cons h t ih =>
    intro n
    cases n with
    | zero => exact .nil
    | succ n => exact .cons h (ih n)
theorem P2.drop (h : P2 R l m) : ∀ n, P2 R (l.drop n) (m.drop n) := by
  induction h with
  | nil => intro n; simp; exact .nil
  | cons h t ih =>
    intro n
    cases n with
    | zero => exact .cons h t
    | succ n => exact ih n
end
theorem P2.join {α β γ : Type} {R : α → γ → Prop} {S : β → γ → Prop} {U : α → β → Prop} {l : List α} {m : List β} {n : List γ} (h : P2 R l n) (k : ∀ a b c, R a c → S b c → U a b) (g : P2 S m n) : P2 U l m := by
  induction h generalizing m with
  | nil => cases g; exact .nil
  | cons h t ih => cases g with
    | cons h' t' => exact .cons (k _ _ _ h h') (ih t')
/-- a list of signs -/
abbrev SgL (K : PySem.W.Frag) (G : Hp) : List V → List Tl.Sg → Prop := P2 (SgV K G)
theorem SgL.up {K : PySem.W.Frag} {G G' : Hp} {l : List V} {m : List Tl.Sg} (e : Ex G G') (h : SgL K G l m) : SgL K G' l m := h.imp fun _ _ z => z.up e
theorem SgL.dps {K : PySem.W.Frag} {G : Hp} {l : List V} {m : List Tl.Sg} (h : SgL K G l m) : DpAll K G l (m.map sgD) := by
  induction h with
  | nil => exact .nil
  | cons h t ih => exact .cons h.dp ih
theorem sgs_shaped (m : List Tl.Sg) : SeqAt.shaped (.list (m.map sgD)) = true := by
  have key : PyData.canLayAll0 (m.map sgD) = true ∧ PyData.depthAll (m.map sgD) ≤ 2 := by
    induction m with
    | nil => exact ⟨rfl, by decide⟩
    | cons x r ih =>
      refine ⟨?_, ?_⟩
      · show ((sgD x).canLay0 && PyData.canLayAll0 (r.map sgD)) = true
        rw [ih.1]
        rfl
      · show max (sgD x).depth (PyData.depthAll (r.map sgD)) ≤ 2
        have e : (sgD x).depth ≤ 2 := by simp [sgD, PyData.depth, PyData.depthAll]
        omega
  show (PyData.canLayAll0 (m.map sgD) && decide (_ ≤ 64)) = true
  rw [key.1]
  have e : (PyData.list (m.map sgD)).depth = PyData.depthAll (m.map sgD) + 1 := by first | rfl | exact Nat.add_comm _ _
  show decide (_ ≤ 64) = true
  rw [decide_eq_true_iff, e]
  omega
/-- l.index(x), l a list of signs -/
theorem r_indexSg {K : PySem.W.Frag} {H : Hp} {Q : VK} {a : Addr} {xs : List V} {v : V} {m : List Tl.Sg} {x : Tl.Sg} {j : Nat} (hl : SqL K H a xs) (hm : SgL K H xs m) (hv : SgV K H v x) (hj : m[j]? = some x) (hno : ∀ i, i < j → m[i]? ≠ some x) (q : Q (.int (j : Nat)) H) :
    rIndexD K (.ref a) [v] H Q := by
  refine ⟨a, v, sgD x, m.map sgD, j, sgD x, rfl, rfl, .lst hl hm.dps, hv.dp, sgs_shaped m, sg_shaped x, by rw [List.getElem?_map, hj]; rfl, by rw [sg_eqv]; simp, fun i z hi hz => ?_, q⟩
  rw [List.getElem?_map] at hz
  obtain ⟨y, hy, rfl⟩ := Option.map_eq_some_iff.mp hz
  rw [sg_eqv]
  refine decide_eq_false fun e => hno i hi ?_
  rw [hy, e]
end Dk

/-! immutable data: kept as long as tuples are kept -/
namespace Dk
open PySem PySem.Spec PyProof.Rows L2
section
variable {H H' H1 H2 : Hp} {b h p l : Addr} {xs ys : List V} {o : HO}
theorem Tk.refl (H : Hp) : Tk H H := fun _ _ e => e
theorem Tk.trans (x : Tk H H1) (y : Tk H1 H2) : Tk H H2 := fun p xs e => y p xs (x p xs e)
theorem Tk.ex (e : Ex H H') : Tk H H' := fun p xs h => e _ _ h
theorem Tk.put (e : H l = some (.lst xs)) : Tk H (upd H l o) := fun p ys h => by
  have n : p ≠ l := fun z => by rw [z, e] at h; cases h
  rw [upd_ne n]
  exact h
theorem Tk.new (e : H p = none) : Tk H (upd H p o) := .ex (Same.new (Same.refl H) e)
theorem Bx.tk (s : Bx H b h) (d : Dr2 b h H H') : Tk H H' := fun p xs e => by
  obtain ⟨_, z, ns, h1, _, _, h2, _⟩ := s
  exact d.hh p _ (fun q => by rw [q, h1] at e; cases e) (fun q => by rw [q, h2] at e; cases e) e
end
/-- a relation between values and data that tuples alone bear -/
class Imm {α : Type} (R : Hp → V → α → Prop) : Prop where
  tk : ∀ {H H' : Hp} {v : V} {x : α}, Tk H H' → R H v x → R H' v x
theorem imm {α : Type} {R : Hp → V → α → Prop} [i : Imm R] {H H' : Hp} {v : V} {x : α} (t : Tk H H') (r : R H v x) : R H' v x := i.tk t r
def IntV (H : Hp) (v : V) (n : Nat) : Prop := v = .int (n : Nat)
def StrV (H : Hp) (v : V) (z : Str) : Prop := v = .str z
def PairV (K : PySem.W.Frag) {α β : Type} (R : Hp → V → α → Prop) (S : Hp → V → β → Prop) (H : Hp) (v : V) (x : α × β) : Prop := ∃ (p : Addr) (a b : V), v = .ref p ∧ Tu K H p [a, b] ∧ R H a x.1 ∧ S H b x.2
def TupV (K : PySem.W.Frag) {α : Type} (R : Hp → V → α → Prop) (H : Hp) (v : V) (l : List α) : Prop := ∃ (p : Addr) (xs : List V), v = .ref p ∧ Tu K H p xs ∧ P2 (R H) xs l
instance : Imm IntV := ⟨fun _ h => h⟩
instance : Imm StrV := ⟨fun _ h => h⟩
instance {K : PySem.W.Frag} : Imm (SgV K) := ⟨fun t h => h.imp fun p z => ⟨z.1, z.2.tk t⟩⟩
instance {K : PySem.W.Frag} {α β : Type} {R : Hp → V → α → Prop} {S : Hp → V → β → Prop} [Imm R] [Imm S] : Imm (PairV K R S) := ⟨fun t h => by
  obtain ⟨p, a, b, h1, h2, h3, h4⟩ := h
  exact ⟨p, a, b, h1, h2.tk t, imm t h3, imm t h4⟩⟩
theorem p2_imm {α : Type} {R : Hp → V → α → Prop} [Imm R] {H H' : Hp} {xs : List V} {l : List α} (t : Tk H H') (h : P2 (R H) xs l) : P2 (R H') xs l := h.imp fun _ _ z => imm t z
instance {K : PySem.W.Frag} {α : Type} {R : Hp → V → α → Prop} [Imm R] : Imm (TupV K R) := ⟨fun t h => by
  obtain ⟨p, xs, h1, h2, h3⟩ := h
  exact ⟨p, xs, h1, h2.tk t, p2_imm t h3⟩⟩
section
variable {α β : Type} {R : Hp → V → α → Prop} {S : Hp → V → β → Prop} {K : PySem.W.Frag} {σ : L2.St} {H H' : Hp} {Q : VK} {v u a b : V} {x : α} {y : β} {l m : List α} {xs : List V} {N : L2.St → Hp → Prop}
theorem TupV.ref (h : TupV K R H v l) : ∃ p xs, v = .ref p ∧ Tu K H p xs ∧ P2 (R H) xs l := h
theorem r_ixTV {i : Nat} (h : TupV K R H v l) (hx : l[i]? = some x) (q : ∀ u, R H u x → Q u H) : rIx K v (.int (i : Nat)) H Q := by
  obtain ⟨p, xs, rfl, hp, hl⟩ := h
  obtain ⟨u, hu, hr⟩ := hl.get' hx
  exact r_ixT hp.sq (atI_nat hu) (q u hr)
theorem r_ixTm (h : TupV K R H v (l ++ [x])) (q : ∀ u, R H u x → Q u H) : rIx K v (.int (-1)) H Q := by
  obtain ⟨p, xs, rfl, hp, hl⟩ := h
  have hlen := hl.len
  obtain ⟨u, hu, hr⟩ := hl.get' (i := l.length) (b := x) (by simp)
  rw [List.length_append, List.length_singleton] at hlen
  have e : xs = xs.dropLast ++ [u] := by
    have hne : xs ≠ [] := fun z => by rw [z] at hlen; simp at hlen
    have h1 := (List.dropLast_concat_getLast hne).symm
    have h2 : xs.getLast hne = u := by
      have h3 : xs[xs.length - 1]? = some (xs.getLast hne) := by rw [← List.getLast?_eq_getElem?]; exact List.getLast?_eq_some_getLast hne
      rw [hlen, Nat.add_sub_cancel, hu] at h3
      exact (Option.some.inj h3).symm
    rw [h2] at h1
    exact h1
  rw [e] at hp
  exact r_ixT hp.sq (atI_last _ _) (q u hr)
theorem r_ixP0 {z : α × β} (h : PairV K R S H v z) (q : ∀ u, R H u z.1 → Q u H) : rIx K v (.int 0) H Q := by
  obtain ⟨p, a, b, rfl, hp, ha, hb⟩ := h
  exact r_ixT hp.sq (atI_nat (j := 0) rfl) (q a ha)
theorem r_ixP1 {z : α × β} (h : PairV K R S H v z) (q : ∀ u, S H u z.2 → Q u H) : rIx K v (.int 1) H Q := by
  obtain ⟨p, a, b, rfl, hp, ha, hb⟩ := h
  exact r_ixT hp.sq (atI_nat (j := 1) rfl) (q b hb)
theorem r_ixS0 {z : Tl.Sg} (h : SgV K H v z) (q : Q (.int (z.1 : Nat)) H) : rIx K v (.int 0) H Q := by
  obtain ⟨p, rfl, hp⟩ := h
  exact r_ixT hp.sq (atI_nat (j := 0) rfl) q
theorem r_ixS1 {z : Tl.Sg} (h : SgV K H v z) (q : Q (.int (z.2 : Nat)) H) : rIx K v (.int 1) H Q := by
  obtain ⟨p, rfl, hp⟩ := h
  exact r_ixT hp.sq (atI_nat (j := 1) rfl) q
theorem r_lenTV (h : TupV K R H v l) (q : Q (.int (l.length : Nat)) H) : rLenU K [v] H Q := by
  obtain ⟨p, xs, rfl, hp, hl⟩ := h
  refine r_lenT hp.sq ?_
  rw [hl.len]
  exact q
theorem r_gP {t : TGs} {z : α × β} (h : PairV K R S H v z) (k : ∀ a b, R H a z.1 → S H b z.2 → t [a, b] σ H N) : gTup K 2 t v σ H N := by
  obtain ⟨p, a, b, rfl, hp, ha, hb⟩ := h
  exact r_gtup hp.sq rfl (k a b ha hb)
theorem r_mkP [Imm R] [Imm S] (ha : R H a x) (hb : S H b y) (q : ∀ p H', H p = none → Ex H H' → PairV K R S H' (.ref p) (x, y) → Q (.ref p) H') : [a, b].length ≤ sizeLine ∧ ∀ p, H p = none → Q (.ref p) (upd H p (.tup [a, b])) :=
  r_small nsz fun p hp => q p _ hp (Same.new (Same.refl H) hp) ⟨p, a, b, rfl, .inl upd_same, imm (.new hp) ha, imm (.new hp) hb⟩
theorem r_mkS {i j : Nat} (q : ∀ p H', H p = none → Ex H H' → SgV K H' (.ref p) (i, j) → Q (.ref p) H') : [V.int (i : Nat), V.int (j : Nat)].length ≤ sizeLine ∧ ∀ p, H p = none → Q (.ref p) (upd H p (.tup [V.int (i : Nat), V.int (j : Nat)])) :=
  r_small nsz fun p hp => q p _ hp (Same.new (Same.refl H) hp) ⟨p, rfl, .inl upd_same⟩
theorem r_mkT [Imm R] (h : P2 (R H) xs l) (hl : l.length ≤ 1000) (q : ∀ p H', H p = none → Ex H H' → TupV K R H' (.ref p) l → Q (.ref p) H') : xs.length ≤ sizeLine ∧ ∀ p, H p = none → Q (.ref p) (upd H p (.tup xs)) :=
  r_small (by rw [h.len]; exact hl) fun p hp => q p _ hp (Same.new (Same.refl H) hp) ⟨p, xs, rfl, .inl upd_same, p2_imm (.new hp) h⟩
theorem r_catTV [Imm R] (h1 : TupV K R H v l) (h2 : TupV K R H u m) (hz : l.length + m.length ≤ 1000) (q : ∀ w H', Ex H H' → TupV K R H' w (l ++ m) → Q w H') : rAddU K v u H Q := by
  obtain ⟨p, xs, rfl, hp, hl⟩ := h1
  obtain ⟨p2, ys, rfl, hp2, hm⟩ := h2
  refine .inr (.inr (.inr ⟨p, p2, xs, ys, rfl, rfl, hp.sq, hp2.sq, Nat.le_of_lt (small1000 (by rw [hl.len, hm.len]; exact hz)), fun z => ?_, fun _ z => ?_, fun _ _ p3 hp3 => ?_⟩))
  · subst z
    cases hl
    exact q _ H (Same.refl H) ⟨p2, ys, rfl, hp2, hm⟩
  · subst z
    cases hm
    rw [List.append_nil] at q
    exact q _ H (Same.refl H) ⟨p, xs, rfl, hp, hl⟩
  · exact q _ _ (Same.new (Same.refl H) hp3) ⟨p3, _, rfl, .inl upd_same, p2_imm (.new hp3) (hl.app hm)⟩
theorem P2.all {l' : List V} {m' : List α} {P : V → α → Prop} (h : P2 P l' m') (lo hi : Option Int) : P2 P (cutV l' lo hi) ((m'.drop (HT.sIx m'.length 0 lo)).take (HT.sIx m'.length m'.length hi - HT.sIx m'.length 0 lo)) := by
  unfold cutV
  rw [h.len]
  exact (h.drop _).take _
theorem r_slTV [Imm R] {lo hi : Option Int} (h : TupV K R H v l) (q : ∀ w H', Ex H H' → TupV K R H' w ((l.drop (HT.sIx l.length 0 lo)).take (HT.sIx l.length l.length hi - HT.sIx l.length 0 lo)) → Q w H') : rSlU K v lo hi H Q := by
  obtain ⟨p, xs, rfl, hp, hl⟩ := h
  refine .inr (.inr ⟨p, xs, rfl, hp.sq, fun z => ?_, fun _ p2 hp2 => ?_⟩)
  · have e : ((l.drop (HT.sIx l.length 0 lo)).take (HT.sIx l.length l.length hi - HT.sIx l.length 0 lo)) = l := by
      rw [hl.len] at z
      rw [z.1, z.2, List.drop_zero, Nat.sub_zero, List.take_length]
    rw [e] at q
    exact q _ H (Same.refl H) ⟨p, xs, rfl, hp, hl⟩
  · exact q _ _ (Same.new (Same.refl H) hp2) ⟨p2, _, rfl, .inl upd_same, p2_imm (.new hp2) (hl.all lo hi)⟩
theorem cut_to {l : List α} {k : Nat} : (l.drop (HT.sIx l.length 0 none)).take (HT.sIx l.length l.length (some (k : Int)) - HT.sIx l.length 0 none) = l.take k := by
  rw [HT.sIx_nat, HT.sIx_none, List.drop_zero, Nat.sub_zero]
  by_cases h : k ≤ l.length
  · rw [Nat.min_eq_left h]
  · rw [Nat.min_eq_right (by omega), List.take_length, List.take_of_length_le (by omega)]
theorem cut_from {l : List α} {k : Nat} : (l.drop (HT.sIx l.length 0 (some (k : Int)))).take (HT.sIx l.length l.length none - HT.sIx l.length 0 (some (k : Int))) = l.drop k := by
  rw [HT.sIx_nat, HT.sIx_none]
  by_cases h : k ≤ l.length
  · rw [Nat.min_eq_left h, List.take_of_length_le (by rw [List.length_drop]; omega)]
  · rw [Nat.min_eq_right (by omega), Nat.sub_self, List.take_zero, List.drop_eq_nil_of_le (by omega)]
theorem r_slTo [Imm R] {k : Nat} (h : TupV K R H v l) (q : ∀ w H', Ex H H' → TupV K R H' w (l.take k) → Q w H') : rSlU K v none (some (k : Int)) H Q := r_slTV h (by rw [cut_to]; exact q)
theorem r_slFrom [Imm R] {k : Nat} (h : TupV K R H v l) (q : ∀ w H', Ex H H' → TupV K R H' w (l.drop k) → Q w H') : rSlU K v (some (k : Int)) none H Q := r_slTV h (by rw [cut_from]; exact q)
/-- tuple(list) -/
theorem r_tupLV [Imm R] {p : Addr} (hp : H p = some (.lst xs)) (h : P2 (R H) xs l) (q : ∀ p H', H p = none → Ex H H' → TupV K R H' (.ref p) l → Q (.ref p) H') : rTupU K [.ref p] H Q :=
  r_tupL (sqL hp) fun p2 hp2 => q p2 _ hp2 (Same.new (Same.refl H) hp2) ⟨p2, xs, rfl, .inl upd_same, p2_imm (.new hp2) h⟩
/-- an item of a list -/
theorem r_ixLV {p : Addr} {i : Nat} (hp : H p = some (.lst xs)) (h : P2 (R H) xs l) (hx : l[i]? = some x) (q : ∀ u, R H u x → Q u H) : rIx K (.ref p) (.int (i : Nat)) H Q := by
  obtain ⟨u, hu, hr⟩ := h.get' hx
  exact r_ixL (sqL hp) (atI_nat hu) (q u hr)
theorem r_ixLm {p : Addr} (hp : H p = some (.lst xs)) (h : P2 (R H) xs (l ++ [x])) (q : ∀ u, R H u x → Q u H) : rIx K (.ref p) (.int (-1)) H Q := by
  have hlen := h.len
  obtain ⟨u, hu, hr⟩ := h.get' (i := l.length) (b := x) (by simp)
  rw [List.length_append, List.length_singleton] at hlen
  have e : xs = xs.dropLast ++ [u] := by
    have hne : xs ≠ [] := fun z => by rw [z] at hlen; simp at hlen
    have h1 := (List.dropLast_concat_getLast hne).symm
    have h2 : xs.getLast hne = u := by
      have h3 : xs[xs.length - 1]? = some (xs.getLast hne) := by rw [← List.getLast?_eq_getElem?]; exact List.getLast?_eq_some_getLast hne
      rw [hlen, Nat.add_sub_cancel, hu] at h3
      exact (Option.some.inj h3).symm
    rw [h2] at h1
    exact h1
  rw [e] at hp
  exact r_ixL (sqL hp) (atI_last _ _) (q u hr)
end
/-! equality of pairs of signs -/
abbrev SpV (K : PySem.W.Frag) := PairV K (SgV K) (SgV K)
abbrev spD (x : Tl.Sg × Tl.Sg) : PyData := .tuple [sgD x.1, sgD x.2]
theorem SpV.dp {K : PySem.W.Frag} {G : Hp} {v : V} {x : Tl.Sg × Tl.Sg} (h : SpV K G v x) : Dp K G v (spD x) := by
  obtain ⟨p, a, b, rfl, hp, ha, hb⟩ := h
  exact .tup hp.sq (.cons ha.dp (.cons hb.dp .nil))
theorem sp_shaped (x : Tl.Sg × Tl.Sg) : SeqAt.shaped (spD x) = true := by rfl
theorem sp_eqv (x y : Tl.Sg × Tl.Sg) : PyData.eqv (spD x) (spD y) = decide (x = y) := by
  obtain ⟨a, b⟩ := x
  obtain ⟨c, d⟩ := y
  show (PyData.eqv (sgD a) (sgD c) && (PyData.eqv (sgD b) (sgD d) && true)) = _
  rw [sg_eqv, sg_eqv, Bool.and_true, Bool.eq_iff_iff]
  simp
theorem r_eqSp {K : PySem.W.Frag} {H : Hp} {Q : VK} {v w : V} {x y : Tl.Sg × Tl.Sg} (h1 : SpV K H v x) (h2 : SpV K H w y) (q : Q (.bl (decide (x = y))) H) : rEqU K v w H Q :=
  .inr ⟨_, _, h1.dp, h2.dp, sp_shaped x, sp_shaped y, by rw [sp_eqv]; exact q⟩
theorem r_neSp {K : PySem.W.Frag} {H : Hp} {Q : VK} {v w : V} {x y : Tl.Sg × Tl.Sg} (h1 : SpV K H v x) (h2 : SpV K H w y) (q : Q (.bl (!decide (x = y))) H) : rNeU K v w H Q :=
  .inr ⟨_, _, h1.dp, h2.dp, sp_shaped x, sp_shaped y, by rw [sp_eqv]; exact q⟩
theorem sps_shaped (m : List (Tl.Sg × Tl.Sg)) : SeqAt.shaped (.list (m.map spD)) = true := by
  have key : PyData.canLayAll0 (m.map spD) = true ∧ PyData.depthAll (m.map spD) ≤ 3 := by
    induction m with
    | nil => exact ⟨rfl, by decide⟩
    | cons x r ih =>
      refine ⟨?_, ?_⟩
      · show ((spD x).canLay0 && PyData.canLayAll0 (r.map spD)) = true
        rw [ih.1]
        rfl
      · show max (spD x).depth (PyData.depthAll (r.map spD)) ≤ 3
        have e : (spD x).depth ≤ 3 := by simp [spD, sgD, PyData.depth, PyData.depthAll]
        omega
  show (PyData.canLayAll0 (m.map spD) && decide (_ ≤ 64)) = true
  rw [key.1]
  have e : (PyData.list (m.map spD)).depth = PyData.depthAll (m.map spD) + 1 := by first | rfl | exact Nat.add_comm _ _
  show decide (_ ≤ 64) = true
  rw [decide_eq_true_iff, e]
  omega
theorem sps_dps {K : PySem.W.Frag} {H : Hp} {xs : List V} {m : List (Tl.Sg × Tl.Sg)} (h : P2 (SpV K H) xs m) : DpAll K H xs (m.map spD) := by
  induction h with
  | nil => exact .nil
  | cons h t ih => exact .cons (SpV.dp h) ih
/-- pair not in a list of pairs -/
theorem r_niSp {K : PySem.W.Frag} {H : Hp} {Q : VK} {v : V} {p : Addr} {xs : List V} {x : Tl.Sg × Tl.Sg} {m : List (Tl.Sg × Tl.Sg)} (h1 : SpV K H v x) (hp : H p = some (.lst xs)) (h2 : P2 (SpV K H) xs m) (q : Q (.bl (!decide (x ∈ m))) H) : rNotInD K v (.ref p) H Q := by
  exact ⟨_, _, h1.dp, .lst (sqL hp) (sps_dps h2), sp_shaped x, sps_shaped m, by
    have e : ((m.map spD).any fun z => PyData.eqv z (spD x)) = decide (x ∈ m) := by
      rw [List.any_map, Bool.eq_iff_iff, List.any_eq_true, decide_eq_true_iff]
      constructor
      · rintro ⟨y, hy, e⟩
        rw [Function.comp_apply, sp_eqv, decide_eq_true_iff] at e
        rw [← e]
        exact hy
      · intro h
        exact ⟨x, h, by rw [Function.comp_apply, sp_eqv]; exact decide_eq_true rfl⟩
    rw [e]
    exact q⟩
end Dk

/-! rules of our own, further -/
namespace Dk
open PySem PySem.Spec PyProof.Rows L2
/-! text * number -/
def rRepS : R2 := fun x y H Q => ∃ (z : Str) (n : Nat), x = .str z ∧ y = .int (n : Nat) ∧ z.length ≤ 100 ∧ n ≤ 8000 ∧ Q (.str (Txt.mul z n)) H
theorem op_repS {X : Cx} : OpR X (binaryOp .Mult) rRepS := by
  intro pins s σ H x y v u Q I rx ry h
  obtain ⟨z, n, rfl, rfl, hz, hn, q⟩ := h
  obtain ⟨t, rfl⟩ := rx
  obtain ⟨t', rfl⟩ := ry
  refine SB.mul ⟨?_, fun h1 h2 => ?_, fun h1 h2 => ?_⟩ fun t' k => ⟨.str (Txt.mul z n), H, I.tok _, ⟨_, rfl⟩, q⟩
  · simp
    omega
  · have e : (z.length : Int) * n ≤ 2 ^ 63 - 1 := by
      have : (z.length : Int) * n ≤ 100 * 8000 := Int.mul_le_mul (by omega) (by omega) (by omega) (by omega)
      omega
    have p : (0 : Int) < n := by omega
    have := (Int.le_ediv_iff_mul_le p).mpr e
    omega
  · have e : z.length * n ≤ 100 * 8000 := Nat.mul_le_mul hz hn
    rw [Int.toNat_natCast]
    show decide (z.length * n > sizeLine) = false
    rw [decide_eq_false_iff_not, sizeLine_eq]
    omega
theorem r_repS {H : Hp} {Q : VK} {z : Str} {n : Nat} (hz : z.length ≤ 100) (hn : n ≤ 8000) (q : Q (.str (Txt.mul z n)) H) : rRepS (.str z) (.int (n : Nat)) H Q := ⟨z, n, rfl, rfl, hz, hn, q⟩
theorem cs_mul (z : Str) (n : Nat) : cs (Txt.mul z n) = (List.replicate n (cs z)).flatten := by
  unfold Txt.mul
  by_cases h1 : (n : Int) < 1
  · have e : n = 0 := by omega
    subst e
    rw [if_pos h1]
    rfl
  · rw [if_neg h1]
    by_cases h2 : ((n : Int) == 1 || z.length == 0) = true
    · rw [if_pos h2]
      rw [Bool.or_eq_true, beq_iff_eq, beq_iff_eq] at h2
      rcases h2 with h2 | h2
      · have e : n = 1 := by omega
        subst e
        simp
      · have e : cs z = [] := List.length_eq_zero_iff.mp (by rw [cs_len]; exact h2)
        rw [e]
        simp
    · rw [if_neg h2, Int.toNat_natCast]
      have key : ∀ (m : Nat) (a : Array Nat), ((List.replicate m z.cps).foldl (fun x y => x ++ y) a).toList = a.toList ++ (List.replicate m (cs z)).flatten := by
        intro m
        induction m with
        | zero => intro a; simp
        | succ m ih =>
          intro a
          rw [List.replicate_succ, List.foldl_cons, ih, List.replicate_succ, List.flatten_cons, Array.toList_append, List.append_assoc]
      have q := key n #[]
      simpa using q
theorem len_mul (z : Str) (n : Nat) : (Txt.mul z n).length = n * z.length := by
  rw [← cs_len, cs_mul, List.length_flatten, List.map_replicate, List.sum_replicate_nat, cs_len]
/-! reversed(a tuple) -/
theorem r_forRvo {K : PySem.W.Frag} {te : TE} {g : TG} {tb : TS} {D : Ends} {σ : L2.St} {H : Hp} (h : te σ H fun v H1 => ∃ (a : Addr) (xs : List V), v = .ref a ∧ ((SqL K H1 a xs ∧ LoopW (Itv K a xs.length) g tb D σ H1) ∨ (SqT K H1 a xs ∧ LoopW (RT.ItvT K a xs.length) g tb D σ H1))) : tFor (RT.iRevA K te) g tb D σ H := h
theorem r_mkSi {K : PySem.W.Frag} {H : Hp} {Q : VK} {a b : Int} {i j : Nat} (ea : a = (i : Nat)) (eb : b = (j : Nat)) (q : ∀ p H', H p = none → Ex H H' → SgV K H' (.ref p) (i, j) → Q (.ref p) H') : [V.int a, V.int b].length ≤ sizeLine ∧ ∀ p, H p = none → Q (.ref p) (upd H p (.tup [V.int a, V.int b])) := by
  subst ea eb
  exact r_mkS q
section
variable {α β : Type} {R : Hp → V → α → Prop} {S : Hp → V → β → Prop} {H : Hp} {p : Addr} {u v : V} {x : α} {y : β} {l : List α} {xs : List V}
theorem nP (K : PySem.W.Frag) [Imm R] [Imm S] (hp : H p = none) (ha : R H u x) (hb : S H v y) : ∃ H', H' = upd H p (.tup [u, v]) ∧ Ex H H' ∧ PairV K R S H' (.ref p) (x, y) :=
  ⟨_, rfl, Same.new (Same.refl H) hp, p, u, v, rfl, .inl upd_same, imm (.new hp) ha, imm (.new hp) hb⟩
theorem nS (K : PySem.W.Frag) {a b : Int} {i j : Nat} (hp : H p = none) (ea : a = (i : Nat)) (eb : b = (j : Nat)) : ∃ H', H' = upd H p (.tup [V.int a, V.int b]) ∧ Ex H H' ∧ SgV K H' (.ref p) (i, j) := by
  subst ea eb
  exact ⟨_, rfl, Same.new (Same.refl H) hp, p, rfl, .inl upd_same⟩
theorem nT (K : PySem.W.Frag) [Imm R] (hp : H p = none) (h : P2 (R H) xs l) : ∃ H', H' = upd H p (.tup xs) ∧ Ex H H' ∧ TupV K R H' (.ref p) l :=
  ⟨_, rfl, Same.new (Same.refl H) hp, p, xs, rfl, .inl upd_same, p2_imm (.new hp) h⟩
theorem nL (o : HO) (hp : H p = none) : ∃ H', H' = upd H p o ∧ Ex H H' ∧ H' p = some o := ⟨_, rfl, Same.new (Same.refl H) hp, upd_same⟩
end
/-! within a comprehension -/
theorem k_eqU {X : Cx} {K : PySem.W.Frag} (h : X.K = K) (hu : X.A.units + 64 < cLine) : OpR X (compareOp .Eq) (rEqU K) := h ▸ op_eqU hu
theorem k_neU {X : Cx} {K : PySem.W.Frag} (h : X.K = K) (hu : X.A.units + 64 < cLine) : OpR X (compareOp .NotEq) (rNeU K) := h ▸ op_neU hu
/-! ints in lists -/
section
variable {K : PySem.W.Frag} {H : Hp} {Q : VK} {p : Addr} {ns : List Int} {i : Int}
theorem flat_ints : (ns.map V.int).all flatV = true := by
  rw [List.all_map, List.all_eq_true]
  intro x _
  rfl
theorem inV_ints : inV (.int i) (ns.map V.int) = decide (i ∈ ns) := by
  unfold inV
  rw [List.any_map, Bool.eq_iff_iff, List.any_eq_true, decide_eq_true_iff]
  constructor
  · rintro ⟨y, hy, e⟩
    have z : y = i := by
      have := e
      simp [eqV] at this
      omega
    rw [← z]
    exact hy
  · intro h
    exact ⟨i, h, by simp [eqV]⟩
theorem r_inI (hp : SqL K H p (ns.map V.int)) (q : Q (.bl (decide (i ∈ ns))) H) : rInU K (.int i) (.ref p) H Q :=
  .inr ⟨p, _, rfl, .inl hp, rfl, flat_ints, by
    show Q (.bl (inV (.int i) (ns.map V.int))) H
    rw [inV_ints]
    exact q⟩
theorem dps_ints : DpAll K H (ns.map V.int) (ns.map PyData.int) := by
  induction ns with
  | nil => exact .nil
  | cons x r ih => exact .cons (.int _) ih
theorem ints_shaped : SeqAt.shaped (.list (ns.map PyData.int)) = true := by
  have key : PyData.canLayAll0 (ns.map PyData.int) = true ∧ PyData.depthAll (ns.map PyData.int) ≤ 2 := by
    induction ns with
    | nil => exact ⟨rfl, by decide⟩
    | cons x r ih =>
      refine ⟨?_, ?_⟩
      · show ((PyData.int x).canLay0 && PyData.canLayAll0 (r.map PyData.int)) = true
        rw [ih.1]
        rfl
      · show max (PyData.int x).depth (PyData.depthAll (r.map PyData.int)) ≤ 2
        have e : (PyData.int x).depth ≤ 2 := by simp [PyData.depth]
        omega
  show (PyData.canLayAll0 (ns.map PyData.int) && decide (_ ≤ 64)) = true
  rw [key.1]
  have e : (PyData.list (ns.map PyData.int)).depth = PyData.depthAll (ns.map PyData.int) + 1 := by first | rfl | exact Nat.add_comm _ _
  show decide (_ ≤ 64) = true
  rw [decide_eq_true_iff, e]
  omega
/-- l.index(i), l a list of ints -/
theorem r_indexI {j : Nat} (hp : SqL K H p (ns.map V.int)) (hj : ns[j]? = some i) (hno : ∀ m, m < j → ns[m]? ≠ some i) (q : Q (.int (j : Nat)) H) : rIndexD K (.ref p) [.int i] H Q := by
  refine ⟨p, .int i, .int i, ns.map PyData.int, j, .int i, rfl, rfl, .lst hp dps_ints, .int i, ints_shaped, rfl, by rw [List.getElem?_map, hj]; rfl, ?_, fun m z hm hz => ?_, q⟩
  · show ((i : Int) == i) = true
    exact beq_self_eq_true i
  · rw [List.getElem?_map] at hz
    obtain ⟨y, hy, rfl⟩ := Option.map_eq_some_iff.mp hz
    show ((y : Int) == i) = false
    rw [beq_eq_false_iff_ne]
    intro e
    exact hno m hm (by rw [hy, e])
end
end Dk

/-! min(a, b), max(a, b) of two tuples of numbers; sorted of two -/
namespace Dk
open PySem PySem.Spec PyProof.Rows L2 PySem.SeqAt PySem.W
section
variable {prog : Program} {w : World} {A : Around} {E : Value → Shared → Prop} {s : Shared}
theorem call_min_twoH {a b : Value} {Q : Value → Shared → Prop}
    (h : wpAny (model prog w) A.in1 (pyIter (.ref s.heap.objs.size)) (fun it s₂ => ∃ I fp wr G n P St H bt, it = .ref I ∧ WalksS prog w A.in1 I fp wr G n P St ∧ St 0 s₂ ∧ (∀ b ∈ fp, b < s₂.heap.objs.size) ∧ 0 < n ∧
      (∀ b o, H.get? b = some o → b ∉ wr) ∧ (∀ b o, H.get? b = some o → s₂.heap.get? b = some o) ∧ CmpIn prog w A.in1 .Lt H P bt ∧ ∀ v s', P (argBest bt (n - 1)) v → Moved wr G s₂ s' → Q v s') E
      { s with heap := s.heap.push { cls := .type "tuple", data := .seq #[a, b] } }) :
    wpAny (model prog w) A (call (.builtin "min") [a, b]) Q E s := by
  have hname : (toString "min" ++ toString ".loop" : String) = "min.loop" := by decide
  refine call_function_tree F.kind_min F.plain_min F.entry_min (F.args_min2 _ _) ?_
  show wpAny _ A.in1 (Builtin.Builtins.bindParams "min" ["key", "default"] 0 ⟨[], []⟩ >>= _) _ _ s
  refine wpAny_bind (wpAny_of_eq (show Builtin.Builtins.bindParams "min" ["key", "default"] 0 ⟨[], []⟩ = pure [none, none] from rfl) ?_)
  show wpAny _ A.in1 (newTuple [a, b] >>= _) _ _ s
  refine wpAny_bind (wpAny_newObj_type ?_)
  refine wpAny_bind (wpAny_mono h (fun it s₂ h₂ => ?_) fun _ _ e => e)
  obtain ⟨I, fp, wr, G, n, P, St, H, bt, rfl, W, hst, hfp, hn, hw, hkeep, hcmp, hQ⟩ := h₂
  refine wpAny_bind (wpAny_newObj_type ?_)
  have hSf : s₂.heap.objs.size ∉ fp := fun hm => Nat.lt_irrefl _ (hfp _ hm)
  rw [hname]
  refine wpAny_pure ⟨plainId_quiet F.plain_min_loop _, codeAny_min_loop_firstH W H hw bt hcmp s₂.heap.objs.size hSf (fresh_in hkeep) _ hn (fun b o e => Heap.get?_push_of_some _ (hkeep b o e)) (W.frame 0 s₂ _ s₂.toks hst (Nat.le_refl _) fun b _ o e => Heap.get?_push_of_some _ e) (Heap.get?_push_size _ rfl) fun v s' hP hm => ?_⟩
  exact hQ v s' hP (Moved.drop_new (tk := s₂.toks) hm (Nat.le_refl _))
theorem call_max_twoH {a b : Value} {Q : Value → Shared → Prop}
    (h : wpAny (model prog w) A.in1 (pyIter (.ref s.heap.objs.size)) (fun it s₂ => ∃ I fp wr G n P St H bt, it = .ref I ∧ WalksS prog w A.in1 I fp wr G n P St ∧ St 0 s₂ ∧ (∀ b ∈ fp, b < s₂.heap.objs.size) ∧ 0 < n ∧
      (∀ b o, H.get? b = some o → b ∉ wr) ∧ (∀ b o, H.get? b = some o → s₂.heap.get? b = some o) ∧ CmpIn prog w A.in1 .Gt H P bt ∧ ∀ v s', P (argBest bt (n - 1)) v → Moved wr G s₂ s' → Q v s') E
      { s with heap := s.heap.push { cls := .type "tuple", data := .seq #[a, b] } }) :
    wpAny (model prog w) A (call (.builtin "max") [a, b]) Q E s := by
  have hname : (toString "max" ++ toString ".loop" : String) = "max.loop" := by decide
  refine call_function_tree F.kind_max F.plain_max F.entry_max (F.args_max2 _ _) ?_
  show wpAny _ A.in1 (Builtin.Builtins.bindParams "max" ["key", "default"] 0 ⟨[], []⟩ >>= _) _ _ s
  refine wpAny_bind (wpAny_of_eq (show Builtin.Builtins.bindParams "max" ["key", "default"] 0 ⟨[], []⟩ = pure [none, none] from rfl) ?_)
  show wpAny _ A.in1 (newTuple [a, b] >>= _) _ _ s
  refine wpAny_bind (wpAny_newObj_type ?_)
  refine wpAny_bind (wpAny_mono h (fun it s₂ h₂ => ?_) fun _ _ e => e)
  obtain ⟨I, fp, wr, G, n, P, St, H, bt, rfl, W, hst, hfp, hn, hw, hkeep, hcmp, hQ⟩ := h₂
  refine wpAny_bind (wpAny_newObj_type ?_)
  have hSf : s₂.heap.objs.size ∉ fp := fun hm => Nat.lt_irrefl _ (hfp _ hm)
  rw [hname]
  refine wpAny_pure ⟨plainId_quiet F.plain_max_loop _, codeAny_max_loop_firstH W H hw bt hcmp s₂.heap.objs.size hSf (fresh_in hkeep) _ hn (fun b o e => Heap.get?_push_of_some _ (hkeep b o e)) (W.frame 0 s₂ _ s₂.toks hst (Nat.le_refl _) fun b _ o e => Heap.get?_push_of_some _ e) (Heap.get?_push_size _ rfl) fun v s' hP hm => ?_⟩
  exact hQ v s' hP (Moved.drop_new (tk := s₂.toks) hm (Nat.le_refl _))
theorem min_two_data {a b : Value} {x y : PyData} {as bs : List Addr} {Q : Value → Shared → Prop} (hh : A.handled = none) (ra : Reads s.heap a x as) (rb : Reads s.heap b y bs) (ha : PySem.W.AlikeAll [x, y]) (hu : A.units + 1 + PyData.depthAll [x, y] < cLine)
    (h : ∀ h' tk, (∀ c o, s.heap.get? c = some o → h'.get? c = some o) → Q (if dataLt y x = true then b else a) { s with heap := h', toks := tk }) :
    wpAny (model prog w) A (call (.builtin "min") [a, b]) Q E s := by
  have k0 : ∀ c o, s.heap.get? c = some o → (s.heap.push { cls := .type "tuple", data := .seq #[a, b] }).get? c = some o := fun c o e => Heap.get?_push_of_some _ e
  have hl : ({ s with heap := s.heap.push { cls := .type "tuple", data := .seq #[a, b] } } : Shared).heap.IsTuple s.heap.objs.size #[a, b] := ⟨_, Heap.get?_push_size _ rfl, rfl, 0, rfl⟩
  have hr : ReadsAll (s.heap.push { cls := .type "tuple", data := .seq #[a, b] }) (#[a, b] : Array Value).toList [x, y] _ := ReadsAll.cons (Reads.keeps k0 ra) (ReadsAll.cons (Reads.keeps k0 rb) ReadsAll.nil)
  refine call_min_twoH (iter_tupleW (s := { s with heap := s.heap.push { cls := .type "tuple", data := .seq #[a, b] } }) (A := A.in1) hh hl fun s₂ e W st hfp hw hk => ?_)
  refine ⟨_, _, _, _, _, _, _, (s.heap.push { cls := .type "tuple", data := .seq #[a, b] }), _, rfl, W, st, hfp, by simp, hw, hk, PySem.W.cmpIn_lt (s := { s with heap := s.heap.push { cls := .type "tuple", data := .seq #[a, b] } }) (A := A.in1) hr ha (by show A.units + 1 + _ < _; exact hu), fun v s' hP m => ?_⟩
  obtain ⟨h', tk, rfl, hk'⟩ := moved_old e rfl m
  have hv : v = if dataLt y x = true then b else a := by
    have hP' : (#[a, b] : Array Value)[if dataLt y x = true then 1 else 0]? = some v := hP
    by_cases c : dataLt y x = true
    · rw [if_pos c] at hP' ⊢
      exact (Option.some.inj hP').symm
    · rw [if_neg c] at hP' ⊢
      exact (Option.some.inj hP').symm
  rw [hv]
  exact h h' tk fun c o e => hk' c o (k0 c o e)
theorem max_two_data {a b : Value} {x y : PyData} {as bs : List Addr} {Q : Value → Shared → Prop} (hh : A.handled = none) (ra : Reads s.heap a x as) (rb : Reads s.heap b y bs) (ha : PySem.W.AlikeAll [x, y]) (hu : A.units + 1 + PyData.depthAll [x, y] < cLine)
    (h : ∀ h' tk, (∀ c o, s.heap.get? c = some o → h'.get? c = some o) → Q (if dataLt x y = true then b else a) { s with heap := h', toks := tk }) :
    wpAny (model prog w) A (call (.builtin "max") [a, b]) Q E s := by
  have k0 : ∀ c o, s.heap.get? c = some o → (s.heap.push { cls := .type "tuple", data := .seq #[a, b] }).get? c = some o := fun c o e => Heap.get?_push_of_some _ e
  have hl : ({ s with heap := s.heap.push { cls := .type "tuple", data := .seq #[a, b] } } : Shared).heap.IsTuple s.heap.objs.size #[a, b] := ⟨_, Heap.get?_push_size _ rfl, rfl, 0, rfl⟩
  have hr : ReadsAll (s.heap.push { cls := .type "tuple", data := .seq #[a, b] }) (#[a, b] : Array Value).toList [x, y] _ := ReadsAll.cons (Reads.keeps k0 ra) (ReadsAll.cons (Reads.keeps k0 rb) ReadsAll.nil)
  refine call_max_twoH (iter_tupleW (s := { s with heap := s.heap.push { cls := .type "tuple", data := .seq #[a, b] } }) (A := A.in1) hh hl fun s₂ e W st hfp hw hk => ?_)
  refine ⟨_, _, _, _, _, _, _, (s.heap.push { cls := .type "tuple", data := .seq #[a, b] }), _, rfl, W, st, hfp, by simp, hw, hk, PySem.W.cmpIn_gt (s := { s with heap := s.heap.push { cls := .type "tuple", data := .seq #[a, b] } }) (A := A.in1) hr ha (by show A.units + 1 + _ < _; exact hu), fun v s' hP m => ?_⟩
  obtain ⟨h', tk, rfl, hk'⟩ := moved_old e rfl m
  have hv : v = if dataLt x y = true then b else a := by
    have hP' : (#[a, b] : Array Value)[if dataLt x y = true then 1 else 0]? = some v := hP
    by_cases c : dataLt x y = true
    · rw [if_pos c] at hP' ⊢
      exact (Option.some.inj hP').symm
    · rw [if_neg c] at hP' ⊢
      exact (Option.some.inj hP').symm
  rw [hv]
  exact h h' tk fun c o e => hk' c o (k0 c o e)
end
def rMinD (K : PySem.W.Frag) : List V → Hp → VK → Prop := fun xs H Q => ∃ (u v : V) (d e : PyData), xs = [u, v] ∧ Dp K H u d ∧ Dp K H v e ∧ AlikeAll [d, e] ∧ PyData.depthAll [d, e] ≤ 60 ∧ Q (if dataLt e d = true then v else u) H
def rMaxD2 (K : PySem.W.Frag) : List V → Hp → VK → Prop := fun xs H Q => ∃ (u v : V) (d e : PyData), xs = [u, v] ∧ Dp K H u d ∧ Dp K H v e ∧ AlikeAll [d, e] ∧ PyData.depthAll [d, e] ≤ 60 ∧ Q (if dataLt d e = true then v else u) H
section
variable {X : Cx}
theorem call_minD (hc : X.calm = true) (hu : X.A.units + 65 < cLine) : CallR X (.builtin "min") (rMinD X.K) := by
  intro pins s σ H xs us Q I r h
  obtain ⟨u, v, d, e, rfl, hd, he, ha, hz, q⟩ := h
  obtain ⟨u', v', rfl, ru, rv⟩ := vals2 r
  obtain ⟨as, r1⟩ := Dp.reads I d u u' hd ru
  obtain ⟨bs, r2⟩ := Dp.reads I e v v' he rv
  refine min_two_data (I.ok.hd hc) r1 r2 ha (by omega) fun h' tk k => ⟨_, H, I.kept k, ?_, q⟩
  split
  · exact rv
  · exact ru
theorem call_maxD (hc : X.calm = true) (hu : X.A.units + 65 < cLine) : CallR X (.builtin "max") (rMaxD2 X.K) := by
  intro pins s σ H xs us Q I r h
  obtain ⟨u, v, d, e, rfl, hd, he, ha, hz, q⟩ := h
  obtain ⟨u', v', rfl, ru, rv⟩ := vals2 r
  obtain ⟨as, r1⟩ := Dp.reads I d u u' hd ru
  obtain ⟨bs, r2⟩ := Dp.reads I e v v' he rv
  refine max_two_data (I.ok.hd hc) r1 r2 ha (by omega) fun h' tk k => ⟨_, H, I.kept k, ?_, q⟩
  split
  · exact rv
  · exact ru
end
def kf (p : Addr) (x y : Tl.Sg) (z : V) : Int × Int := if z = V.ref p then ((x.1 : Int), (x.2 : Int)) else ((y.1 : Int), (y.2 : Int))
theorem kf_1 {p : Addr} {x y : Tl.Sg} : kf p x y (.ref p) = ((x.1 : Int), (x.2 : Int)) := if_pos rfl
theorem kf_2 {p q : Addr} {x y : Tl.Sg} (h : V.ref q ≠ V.ref p) : kf p x y (.ref q) = ((y.1 : Int), (y.2 : Int)) := if_neg h
theorem perm2 {α : Type} {l : List α} {a b : α} (h : l.Perm [a, b]) : l = [a, b] ∨ l = [b, a] := by
  have hl := h.length_eq
  match l, hl with
  | [c, d], _ =>
    have hc : c ∈ [a, b] := h.mem_iff.mp (List.mem_cons_self ..)
    rcases List.mem_cons.mp hc with rfl | hc
    · have z := (List.perm_cons c).mp h
      have e := List.perm_singleton.mp z
      rw [e]
      exact .inl rfl
    · have e1 := List.mem_singleton.mp hc
      subst e1
      have z := (List.perm_cons c).mp (h.trans (List.Perm.swap c a []))
      have e := List.perm_singleton.mp z
      rw [e]
      exact .inr rfl
theorem sg_alike (x y : Tl.Sg) : AlikeAll [sgD x, sgD y] := by
  refine ⟨fun a ha b hb => ?_, fun a ha => ?_⟩
  · rcases List.mem_cons.mp ha with rfl | ha <;> rcases List.mem_cons.mp hb with rfl | hb
    · rfl
    · rw [List.mem_singleton.mp hb]; rfl
    · rw [List.mem_singleton.mp ha]; rfl
    · rw [List.mem_singleton.mp ha, List.mem_singleton.mp hb]; rfl
  · rcases List.mem_cons.mp ha with rfl | ha
    · exact fun z => nomatch z
    · rw [List.mem_singleton.mp ha]; exact fun z => nomatch z
theorem sg_lt (x y : Tl.Sg) : dataLt (sgD x) (sgD y) = decide (x.1 < y.1 ∨ (x.1 = y.1 ∧ x.2 < y.2)) := by
  rw [show dataLt (sgD x) (sgD y) = _ from dataLt_ii _ _ _ _, Bool.eq_iff_iff, decide_eq_true_iff, decide_eq_true_iff]
  omega
theorem sg_depth (x y : Tl.Sg) : PyData.depthAll [sgD x, sgD y] ≤ 60 := by simp [sgD, PyData.depth, PyData.depthAll]
section
variable {K : PySem.W.Frag} {H : Hp} {Q : VK} {u v : V} {x y : Tl.Sg}
theorem r_par {i j : Nat} {ta : TA} {σ : L2.St} {H : Hp} {D : Ends} (h : ta σ H fun vs H1 => ∃ v w, vs = [v, w] ∧ D.nx ((σ.set i (some v)).set j (some w)) H1) : tPar i j ta D σ H := h
/-- min of two signs of one chunk -/
theorem r_minSg (h : x.1 = y.1) (su : SgV K H u x) (sv : SgV K H v y) (q : Q (if y.2 < x.2 then v else u) H) : rMinD K [u, v] H Q := by
  refine ⟨u, v, _, _, rfl, su.dp, sv.dp, sg_alike x y, sg_depth x y, ?_⟩
  have e : (if dataLt (sgD y) (sgD x) = true then v else u) = if y.2 < x.2 then v else u := by
    by_cases c : y.2 < x.2
    · rw [if_pos c, if_pos (by rw [sg_lt, decide_eq_true_iff]; exact .inr ⟨h.symm, c⟩)]
    · rw [if_neg c, if_neg (by rw [sg_lt, decide_eq_true_iff]; omega)]
  rw [e]
  exact q
theorem r_maxSg (h : x.1 = y.1) (su : SgV K H u x) (sv : SgV K H v y) (q : Q (if x.2 < y.2 then v else u) H) : rMaxD2 K [u, v] H Q := by
  refine ⟨u, v, _, _, rfl, su.dp, sv.dp, sg_alike x y, sg_depth x y, ?_⟩
  have e : (if dataLt (sgD x) (sgD y) = true then v else u) = if x.2 < y.2 then v else u := by
    by_cases c : x.2 < y.2
    · rw [if_pos c, if_pos (by rw [sg_lt, decide_eq_true_iff]; exact .inr ⟨h, c⟩)]
    · rw [if_neg c, if_neg (by rw [sg_lt, decide_eq_true_iff]; omega)]
  rw [e]
  exact q
end
end Dk

/-! zip of two things, each a list, a tuple or a text -/
namespace Zp
open PySem PySem.Spec PyProof.Rows L2 Dk
inductive Kd where
  | l (a : Addr)
  | t (a : Addr)
  | s (z : Str)
abbrev sgs (z : Str) : List V := (cs z).map fun c => V.str ⟨#[c]⟩
def Kd.v : Kd → V
  | .l a => .ref a
  | .t a => .ref a
  | .s z => .str z
def Kd.has (K : PySem.W.Frag) : Kd → Hp → List V → Prop
  | .l a, H, xs => SqL K H a xs
  | .t a, H, xs => SqT K H a xs
  | .s z, _, xs => xs = sgs z
def Kd.st (tk : Tok) : Kd → Addr → Nat → Heap → Prop
  | .l a, it, i, h => h.IsListIter it a i
  | .t a, it, i, h => h.IsTupleIter it a i
  | .s z, it, i, h => h.IsStrIter it (strIterType z) z tk i
def Kd.ap : Kd → Addr → Prop
  | .l a, q => a ≠ q
  | .t a, q => a ≠ q
  | .s _, _ => True
section
variable {tk : Tok} {k : Kd} {it : Addr} {i : Nat} {h h' : Heap}
theorem Kd.st_obj (st : k.st tk it i h) : ∃ o, h.get? it = some o ∧ ∀ v, o.data ≠ .cell v := by
  cases k with
  | l a => obtain ⟨o, e, _, d⟩ := st; exact ⟨o, e, fun v q => by rw [d] at q; cases q⟩
  | t a => obtain ⟨o, e, _, d⟩ := st; exact ⟨o, e, fun v q => by rw [d] at q; cases q⟩
  | s z => obtain ⟨o, e, _, d⟩ := st; exact ⟨o, e, fun v q => by rw [d] at q; cases q⟩
theorem Kd.st_keep (st : k.st tk it i h) (q : ∀ o, h.get? it = some o → h'.get? it = some o) : k.st tk it i h' := by
  cases k with
  | l a => exact Heap.IsListIter.at st q
  | t a => exact Heap.IsTupleIter.at st q
  | s z => obtain ⟨o, ho, r⟩ := st; exact ⟨o, q o ho, r⟩
end
theorem vals_at {xs : List V} {its : List Value} (rv : Vals xs its) {j : Nat} {v : Value} (h : its[j]? = some v) : ∃ x, xs[j]? = some x ∧ RelV x v := by
  have hl := rv.length
  have hj := (List.getElem?_eq_some_iff.mp h).1
  obtain ⟨x, hx⟩ : ∃ x, xs[j]? = some x := ⟨_, List.getElem?_eq_getElem (by omega)⟩
  obtain ⟨u, hu, ru⟩ := rv.get hx
  rw [h] at hu
  cases hu
  exact ⟨x, hx, ru⟩
section
variable {X : Cx} {pins : List (Addr × Obj)} {σ : L2.St} {H : Hp} {s : Shared}
theorem Kd.draws (I : Inv X pins σ H s) (hh : X.A.in1.handled = none) {k : Kd} {xs : List V} (hq : k.has X.K H xs) {it : Addr} (hne : k.ap it) {tk : Tok} {i : Nat} (st : k.st tk it i s.heap) :
    ∃ (fp : List Addr) (P : Nat → Value → Prop) (St : Nat → Heap → Prop), Draws X.prog X.w X.A.in1 it fp xs.length P St ∧ St i s.heap ∧ (∀ j v, P j v → ∃ x, xs[j]? = some x ∧ RelV x v) ∧ (∀ j h, St j h → k.st tk it j h) ∧ it ∈ fp ∧ ∀ q ∈ fp, q = it ∨ ¬ k.ap q := by
  cases k with
  | l a =>
    obtain ⟨its, rv, p, _⟩ := I.list hq
    have e : its.toArray.size = xs.length := by rw [List.size_toArray]; exact rv.length.symm
    have D := Draws.list (prog := X.prog) (w := X.w) hh it a hne its.toArray
    rw [e] at D
    refine ⟨_, _, _, D, ⟨st, p.isList⟩, fun j v hv => vals_at rv (by simpa using hv), fun j h z => z.1, by simp, fun q hq => ?_⟩
    rcases List.mem_cons.mp hq with z | z
    · exact .inl z
    · exact .inr fun c => c (List.mem_singleton.mp z).symm
  | t a =>
    obtain ⟨its, rv, p, _⟩ := I.tuple hq
    have e : its.toArray.size = xs.length := by rw [List.size_toArray]; exact rv.length.symm
    have D := Draws.tuple (prog := X.prog) (w := X.w) hh it a hne its.toArray
    rw [e] at D
    refine ⟨_, _, _, D, ⟨st, p⟩, fun j v hv => vals_at rv (by simpa using hv), fun j h z => z.1, by simp, fun q hq => ?_⟩
    rcases List.mem_cons.mp hq with z | z
    · exact .inl z
    · exact .inr fun c => c (List.mem_singleton.mp z).symm
  | s z =>
    obtain rfl : xs = sgs z := hq
    have e : z.cps.size = (sgs z).length := by simp [sgs, cs]
    have D := Draws.text (prog := X.prog) (w := X.w) hh it z tk
    rw [e] at D
    refine ⟨_, _, _, D, st, fun j v hv => ?_, fun j h q => q, by simp, fun q hq => .inl (List.mem_singleton.mp hq)⟩
    obtain ⟨c, u, hc, rfl⟩ := hv
    refine ⟨.str ⟨#[c]⟩, ?_, u, rfl⟩
    show ((cs z).map _)[j]? = _
    rw [List.getElem?_map, show (cs z)[j]? = some c by rw [Array.getElem?_toList]; exact hc]
    rfl
theorem Kd.inj (I : Inv X pins σ H s) {k : Kd} {xs ys : List V} (h1 : k.has X.K H xs) (h2 : k.has X.K H ys) : xs = ys := by
  cases k with
  | l a => exact I.list_inj h1 h2
  | t a => exact I.tuple_inj h1 h2
  | s z => exact Eq.trans h1 (Eq.symm h2)
end
structure Ap (z TI TO i1 i2 : Addr) (k1 k2 : Kd) : Prop where
  TIz : TI ≠ z
  TOz : TO ≠ z
  i1z : i1 ≠ z
  i2z : i2 ≠ z
  TITO : TI ≠ TO
  TIi1 : TI ≠ i1
  TIi2 : TI ≠ i2
  TOi1 : TO ≠ i1
  TOi2 : TO ≠ i2
  i12 : i1 ≠ i2
  a1 : k1.ap z ∧ k1.ap TO ∧ k1.ap i1 ∧ k1.ap i2
  a2 : k2.ap z ∧ k2.ap TO ∧ k2.ap i1 ∧ k2.ap i2
theorem Ap.sep {z TI TO i1 i2 : Addr} {k1 k2 : Kd} (D : Ap z TI TO i1 i2 k1 k2) {fp1 fp2 : List Addr} (m1 : i1 ∈ fp1) (f1 : ∀ q ∈ fp1, q = i1 ∨ ¬ k1.ap q) (m2 : i2 ∈ fp2) (f2 : ∀ q ∈ fp2, q = i2 ∨ ¬ k2.ap q) : ZipSep2 z TI TO i1 i2 fp1 fp2 where
  TIz := D.TIz
  TOz := D.TOz
  TITO := D.TITO
  TIi1 := D.TIi1
  mem1 := m1
  zf1 := fun h => (f1 z h).elim (fun e => D.i1z e.symm) fun n => n D.a1.1
  Tf1 := fun h => (f1 TO h).elim D.TOi1 fun n => n D.a1.2.1
  TIi2 := D.TIi2
  mem2 := m2
  zf2 := fun h => (f2 z h).elim (fun e => D.i2z e.symm) fun n => n D.a2.1
  Tf2 := fun h => (f2 TO h).elim D.TOi2 fun n => n D.a2.2.1
  sep1_2 := fun h => (f2 i1 h).elim D.i12 fun n => n D.a2.2.2.1
  sep2_1 := fun h => (f1 i2 h).elim (fun e => D.i12 e.symm) fun n => n D.a1.2.2.2
def ItzK (K : PySem.W.Frag) (k1 k2 : Kd) : It :=
  ⟨fun i H => ∃ xs ys : List V, k1.has K H xs ∧ k2.has K H ys ∧ i < xs.length ∧ i < ys.length,
    fun i H v H' => ∃ T x y, v = .ref T ∧ H T = none ∧ H' = upd H T (.tup [x, y]) ∧ (∀ xs, k1.has K H xs → xs[i]? = some x) ∧ ∀ ys, k2.has K H ys → ys[i]? = some y,
    fun i H => ∃ xs ys : List V, k1.has K H xs ∧ k2.has K H ys ∧ i ≤ xs.length ∧ i ≤ ys.length ∧ (i = xs.length ∨ i = ys.length)⟩
theorem turn_zipK {P : Program} {w : World} {K : PySem.W.Frag} {elts : List Expr} {kk : Nat} {tpos : Pos} {k1 k2 : Kd} {tk1 tk2 : Tok} {z TI TO i1 i2 : Addr} (D : Ap z TI TO i1 i2 k1 k2) :
    Turn P w K (.Tuple elts kk tpos) (ItzK K k1 k2) [z, TI, TO, i1, i2] z (fun i h => IsZip h z TI TO .none ∧ IsTupOf2 h TI (.ref i1) (.ref i2) ∧ (∃ x y, IsTupOf2 h TO x y) ∧ k1.st tk1 i1 i h ∧ k2.st tk2 i2 i h) where
  mem := by simp
  obj := fun i h st c hc => by
    obtain ⟨hz, hTI, ⟨x, y, hTO⟩, s1, s2⟩ := st
    have e' : c = z ∨ c = TI ∨ c = TO ∨ c = i1 ∨ c = i2 := by simpa using hc
    rcases e' with q | q | q | q | q
    · rw [q]; exact ⟨_, hz, fun v q => nomatch q⟩
    · rw [q]; exact ⟨_, hTI, fun v q => nomatch q⟩
    · rw [q]; exact ⟨_, hTO, fun v q => nomatch q⟩
    · rw [q]; exact Kd.st_obj s1
    · rw [q]; exact Kd.st_obj s2
  keep := fun i h h' st k => by
    obtain ⟨hz, hTI, ⟨x, y, hTO⟩, h1, h2⟩ := st
    exact ⟨k z (by simp) _ hz, k TI (by simp) _ hTI, ⟨x, y, k TO (by simp) _ hTO⟩, Kd.st_keep h1 fun o q => k i1 (by simp) o q, Kd.st_keep h2 fun o q => k i2 (by simp) o q⟩
  item := by
    intro X hP hw hK hc i pins s σ H E I hf st hg
    subst hP hw hK
    obtain ⟨hz, hTI, ⟨x0, y0, hTO⟩, h1, h2⟩ := st
    obtain ⟨xs, ys, hqx, hqy, hx, hy⟩ := hg
    have hh : X.A.in1.handled = none := I.ok.hd hc
    obtain ⟨fp1, P1, St1, D1, st1, g1, b1, m1, f1⟩ := Kd.draws I hh hqx D.a1.2.2.1 h1
    obtain ⟨fp2, P2, St2, D2, st2, g2, b2, m2, f2⟩ := Kd.draws I hh hqy D.a2.2.2.2 h2
    have S := D.sep m1 f1 m2 f2
    have hzl : z < s.heap.objs.size := Heap.lt_size hz
    refine wpAny_pyNext_zipD2_item S D1 D2 hz hTI hTO st1 st2 hx hy fun u u2 h' tk p1 p2 z' TO' s1' s2' hT hsz hk => ?_
    obtain ⟨x, hxx, ru⟩ := g1 _ _ p1
    obtain ⟨y, hyy, ru2⟩ := g2 _ _ p2
    refine ⟨_, rfl, wpAny_letOwnedTupleGo_zip (s := { s with heap := h', toks := tk }) z' fun h'' z'' sb => ?_⟩
    have hT2 : h''.get? s.heap.objs.size = some { cls := .type "tuple", data := .seq #[u, u2] } := (sb.2 _ (Nat.ne_of_gt hzl)).trans hT
    have new : ObjOk X.prog X.w (upd H s.heap.objs.size (.tup [x, y])) h'' s.heap.objs.size (.tup [x, y]) :=
      ⟨by show 2 ≤ sizeLine; decide, [u, u2], .cons ru (.cons ru2 .nil), ⟨_, hT2, rfl, _, rfl⟩⟩
    have I1 : Inv X pins σ (upd H s.heap.objs.size (.tup [x, y])) { s with heap := h'', toks := tk } :=
      I.turnedNew (t' := tk) (ch := [z, TI, TO, i1, i2]) (fun c o hb q => (sb.2 c (fun q' => hb (by simp [q']))).trans (hk c o (fun q' => hb (by simp [q'])) (fun q' => hb (by simp [q'])) (fun q' => hb (by simp [q'])) (fun q' => hb (by simp [q'])) q)) hf (Nat.le_refl _) new
    refine ⟨.ref s.heap.objs.size, _, I1, rfl, ⟨_, x, y, rfl, I.hok.fresh (Nat.le_refl _), rfl, fun l hl => by rw [Kd.inj I hl hqx]; exact hxx, fun l hl => by rw [Kd.inj I hl hqy]; exact hyy⟩, ⟨z'', ?_, ⟨u, u2, ?_⟩, ?_, ?_⟩, fun c hcm => ?_⟩
    · exact (sb.2 _ D.TIz).trans (hk _ _ D.TIz D.TITO D.TIi1 D.TIi2 hTI)
    · exact (sb.2 _ D.TOz).trans TO'
    · exact Kd.st_keep (b1 _ _ s1') fun o q => (sb.2 _ D.i1z).trans q
    · exact Kd.st_keep (b2 _ _ s2') fun o q => (sb.2 _ D.i2z).trans q
    · have hlt : c < s.heap.objs.size := by
        have e' : c = z ∨ c = TI ∨ c = TO ∨ c = i1 ∨ c = i2 := by simpa using hcm
        rcases e' with q | q | q | q | q
        · rw [q]; exact hzl
        · rw [q]; exact Heap.lt_size hTI
        · rw [q]; exact Heap.lt_size hTO
        · rw [q]; obtain ⟨_, e1, _⟩ := Kd.st_obj h1; exact Heap.lt_size e1
        · rw [q]; obtain ⟨_, e2, _⟩ := Kd.st_obj h2; exact Heap.lt_size e2
      rw [upd_ne (Nat.ne_of_lt hlt)]
      exact (hf c hcm).1
  done := by
    intro X hP hw hK hc i pins s σ H E I hf st hg
    subst hP hw hK
    obtain ⟨hz, hTI, ⟨x0, y0, hTO⟩, h1, h2⟩ := st
    obtain ⟨xs, ys, hqx, hqy, l1, l2, hend⟩ := hg
    have hh : X.A.in1.handled = none := I.ok.hd hc
    obtain ⟨fp1, P1, St1, D1, st1, g1, b1, m1, f1⟩ := Kd.draws I hh hqx D.a1.2.2.1 h1
    obtain ⟨fp2, P2, St2, D2, st2, g2, b2, m2, f2⟩ := Kd.draws I hh hqy D.a2.2.2.2 h2
    have S := D.sep m1 f1 m2 f2
    exact wpAny_pyNext_zipD2_end S D1 D2 hz hTI hTO st1 st2 l1 l2 hend fun h' tk hk => ⟨rfl, I.turnedL (t' := tk) (ch := [z, TI, TO, i1, i2]) (fun c o hb q =>
      hk c o (fun q' => hb (by simp [q'])) (fun q' => hb (by simp [q'])) (fun q' => hb (by simp [q'])) (fun q' => hb (by simp [q'])) q) hf⟩
  self := fun A i s Q E st h => wpAny_pyIter_zip st.1 h
/-- how it begins -/
theorem Kd.begins {X : Cx} {pins : List (Addr × Obj)} {σ : L2.St} {H : Hp} {s : Shared} (I : Inv X pins σ H s) {k : Kd} {xs : List V} (hq : k.has X.K H xs) {u : Value} (r : RelV k.v u) :
    ∃ (o : Obj) (HH : Heap → Prop) (tk : Tok), Begins u o HH ∧ HH s.heap ∧ (∀ it h', h'.get? it = some o → k.st tk it 0 h') ∧ ∀ q, s.heap.objs.size ≤ q → k.ap q := by
  cases k with
  | l a =>
    obtain rfl : u = Value.ref a := r
    obtain ⟨its, rv, p, _⟩ := I.list hq
    exact ⟨_, _, 0, begins_list a its.toArray, p.isList, fun it h' e => ⟨_, e, rfl, rfl⟩, fun q hq e => by rw [← e] at hq; exact absurd p.lt (Nat.not_lt.mpr hq)⟩
  | t a =>
    obtain rfl : u = Value.ref a := r
    obtain ⟨its, rv, p, _⟩ := I.tuple hq
    obtain ⟨o1, ho1, _⟩ := id p
    exact ⟨_, _, 0, begins_tuple a its.toArray, p, fun it h' e => ⟨_, e, rfl, rfl⟩, fun q hq e => by rw [← e] at hq; exact absurd (Heap.lt_size ho1) (Nat.not_lt.mpr hq)⟩
  | s z =>
    obtain ⟨t, rfl⟩ := r
    exact ⟨_, _, t, begins_text z t, trivial, fun it h' e => ⟨_, e, rfl, rfl⟩, fun _ _ => trivial⟩
theorem ne_nat {a b : Nat} (h : a ≠ b) : @Ne Addr a b := h
def iZipK (K : PySem.W.Frag) (ta : TA) : TI := fun σ H R => ta σ H fun vs H1 => ∃ k1 k2 : Kd, vs = [k1.v, k2.v] ∧ (∃ xs, k1.has K H1 xs) ∧ (∃ ys, k2.has K H1 ys) ∧ R (ItzK K k1 k2) H1
theorem pi_zipK {X : Cx} {e e2 : Expr} {ta : TA} {p pos tpos : Pos} {elts : List Expr} {kk : Nat} (hg : Gl X "zip") (hm : X.mg "zip" = none) (ha : PA X [e, e2] ta)
    (hs : starEach [e, e2] X.env = (false, eval e X.env) :: starEach [e2] X.env := by rfl) (hpl : (backTo pos (starEach [e2] X.env)).any (·.1) = false := by rfl) :
    PI X (.Tuple elts kk tpos) (.Call (.Name "zip" p) [e, e2] [] pos) (iZipK X.K ta) := by
  refine ⟨fun pins s σ H R I h => ?_⟩
  refine Call_ (ld_blt I hg hm PyProof.Rows.boot_zip (PyProof.Rows.callWith_type1 (thn (ha.run pos pins s σ H _ I h) fun us s1 ⟨vs, H1, I1, r1, q1⟩ => ?_) hs hpl))
  obtain ⟨k1, k2, ex, ⟨xs, hx⟩, ⟨ys, hy⟩, q⟩ := q1
  subst ex
  cases r1 with
  | cons r rr =>
    cases rr with
    | cons r' rr =>
      cases rr
      obtain ⟨o1, HH1, tk1, B1, g1, st1, ap1⟩ := Kd.begins I1 hx r
      obtain ⟨o2, HH2, tk2, B2, g2, st2, ap2⟩ := Kd.begins I1 hy r'
      refine zip_begins2 B1 B2 g1 g2 fun h' hz hTI hTO h1 h2 hsz hk => wpAny_pyIter_zip hz ?_
      have I2 : Inv X pins σ H1 { s1 with heap := h' } := I1.kept (t' := s1.toks) hk
      have fresh5 : ∀ c, c ∈ [s1.heap.objs.size + 4, s1.heap.objs.size + 2, s1.heap.objs.size + 3, s1.heap.objs.size, s1.heap.objs.size + 1] → FpOk X pins H1 c := fun c hcm => by
        have hle : s1.heap.objs.size ≤ c := by
          have e' : c = s1.heap.objs.size + 4 ∨ c = s1.heap.objs.size + 2 ∨ c = s1.heap.objs.size + 3 ∨ c = s1.heap.objs.size ∨ c = s1.heap.objs.size + 1 := by simpa using hcm
          omega
        exact I1.fpOk hle (I1.hok.fresh hle)
      have ap : Ap (s1.heap.objs.size + 4) (s1.heap.objs.size + 2) (s1.heap.objs.size + 3) s1.heap.objs.size (s1.heap.objs.size + 1) k1 k2 :=
        ⟨ne_nat (by omega), ne_nat (by omega), ne_nat (by omega), ne_nat (by omega), ne_nat (by omega), ne_nat (by omega), ne_nat (by omega), ne_nat (by omega), ne_nat (by omega), ne_nat (by omega), ⟨ap1 _ (by omega), ap1 _ (by omega), ap1 _ (by omega), ap1 _ (by omega)⟩, ⟨ap2 _ (by omega), ap2 _ (by omega), ap2 _ (by omega), ap2 _ (by omega)⟩⟩
      exact ⟨s1.heap.objs.size + 4, [s1.heap.objs.size + 4, s1.heap.objs.size + 2, s1.heap.objs.size + 3, s1.heap.objs.size, s1.heap.objs.size + 1], _, _, H1, rfl, I2, turn_zipK (tk1 := tk1) (tk2 := tk2) ap, ⟨hz, hTI, ⟨_, _, hTO⟩, st1 _ _ h1, st2 _ _ h2⟩, fresh5, q⟩
/-! as walks -/
theorem walk_zipK {K : PySem.W.Frag} {k1 k2 : Kd} {xs ys : List V} {n : Nat} (hn : n = min xs.length ys.length) :
    Walk (ItzK K k1 k2) n (fun H => k1.has K H xs ∧ k2.has K H ys) (fun i H v H' => ∃ T x y, v = .ref T ∧ H T = none ∧ H' = upd H T (.tup [x, y]) ∧ xs[i]? = some x ∧ ys[i]? = some y) :=
  ⟨fun i H hi g => ⟨xs, ys, g.1, g.2, by omega, by omega⟩, fun H g => ⟨xs, ys, g.1, g.2, by omega, by omega, by omega⟩, fun i H v H' hi g y => by
    obtain ⟨T, x, y, h1, h2, h3, h4, h5⟩ := y
    exact ⟨T, x, y, h1, h2, h3, h4 xs g.1, h5 ys g.2⟩⟩
end Zp

/-! rules of our own: text[::-1], min of a list of tuples of numbers -/
namespace Dk
open PySem PySem.Spec PyProof.Rows L2 PySem.SeqAt PySem.W
/-! text[::-1] -/
def revS (z : Str) : Str := ⟨(cs z).reverse.toArray⟩
theorem cs_rev (z : Str) : cs (revS z) = (cs z).reverse := List.toList_toArray
theorem rev_len (z : Str) : (revS z).length = z.length := by rw [← cs_len, cs_rev, List.length_reverse, cs_len]
theorem rev_made (z : Str) (t u : Tok) : sliceMade z t none none (some (-1, u)) = Made.str (revS z) := by
  have e : slicePicked z none none (some (-1, u)) = (List.range z.length).reverse := by
    show sliceRange ((z.length : Int) - 1) (-1) (-1) = _
    rw [krv_sliceRange, krv_range]
  unfold sliceMade
  rw [e]
  have e2 : ((Option.map (fun x => x.1) (some ((-1 : Int), u))).getD 1 == 1 && ((List.range z.length).reverse.length == z.length)) = false := by
    have : ((-1 : Int) == 1) = false := by decide
    show (((-1 : Int) == 1) && _) = false
    rw [this, Bool.false_and]
  rw [if_neg (by rw [e2]; exact Bool.false_ne_true)]
  congr 1
  unfold revS
  congr 1
  have e3 : ((List.range z.length).reverse.filterMap (z.cps[·]?)) = (cs z).reverse := by
    rw [List.filterMap_reverse]
    congr 1
    exact krv_all z.cps
  rw [e3]
def tRevS (te : TE) : TE := fun σ H Q => te σ H fun x H1 => ∃ z, x = .str z ∧ z.length ≤ sizeLine ∧ Q (.str (revS z)) H1
theorem pe_revS {X : Cx} {e st : Expr} {te ts : TE} {pos p2 : Pos} (he : PE X e te) (hst : PE X st ts) (hv : ∀ σ H (Q : VK), Q (.int (-1)) H → ts σ H Q) : PE X (.Subscript e (.Slice none none (some st) p2) pos) (tRevS te) := by
  refine ⟨fun pins s σ H Q I h => ?_⟩
  refine Subscript_ (thn (he.run pins s σ H _ I h) fun v s1 ⟨x, H1, I1, r1, q1⟩ => ?_)
  obtain ⟨z, rfl, hz, q⟩ := q1
  obtain ⟨t, rfl⟩ := r1
  refine wpAny_Slice ?_
  rw [evalPart_none]
  refine wpAny_pure ?_
  refine wpAny_pure ?_
  rw [evalPart_some]
  refine thn (hst.run pins s1 σ H1 _ I1 (hv σ H1 (fun y H2 => y = .int (-1) ∧ H2 = H1) ⟨rfl, rfl⟩)) fun u s2 ⟨y, H2, I2, ry, qy, eH⟩ => ?_
  subst qy eH
  obtain ⟨tk, rfl⟩ := ry
  have I3 : Inv X pins σ H2 { s2 with heap := s2.heap.push { cls := .type "slice", data := .fields #[.none, .none, .int (-1) tk] } } := I2.kept (t' := s2.toks) fun b ob q => Heap.get?_push_of_some _ q
  show wpAny (model X.prog X.w) X.A (subscriptTail e (.Slice none none (some st) p2) (.str z t) (.ref s2.heap.objs.size)) (EP X pins σ Q) X.xe { s2 with heap := s2.heap.push { cls := .type "slice", data := .fields #[.none, .none, .int (-1) tk] } }
  refine tail_any (ops := [.ref s2.heap.objs.size, .str z t]) (typeIs_str _ z t) F.slot_str_getitem.lookup ?_ (by with_unfolding_all rfl)
  refine wpAny_getItem_str_slice (l := none) (u := none) (st := some (-1, tk)) ⟨_, Heap.get?_push_size _ rfl, rfl, rfl⟩ rfl ?_
  rw [rev_made]
  exact ⟨by rw [rev_len]; exact hz, .str _, H2, I3.tok _, ⟨_, rfl⟩, q⟩
theorem r_revS {te : TE} {σ : L2.St} {H : Hp} {Q : VK} (h : te σ H fun x H1 => ∃ z, x = .str z ∧ z.length ≤ sizeLine ∧ Q (.str (revS z)) H1) : tRevS te σ H Q := h
theorem r_revZ {z : Str} {H : Hp} {Q : VK} (hz : z.length ≤ 8000) (q : Q (.str (revS z)) H) : ∃ y, V.str z = .str y ∧ y.length ≤ sizeLine ∧ Q (.str (revS y)) H := ⟨z, rfl, by rw [sizeLine_eq]; omega, q⟩
/-! zip -/
theorem r_forZo {K : PySem.W.Frag} {ta : TA} {g : TG} {tb : TS} {D : Ends} {σ : L2.St} {H : Hp} (h : ta σ H fun vs H1 => ∃ k1 k2 : Zp.Kd, vs = [k1.v, k2.v] ∧ (∃ xs, k1.has K H1 xs) ∧ (∃ ys, k2.has K H1 ys) ∧ LoopW (Zp.ItzK K k1 k2) g tb D σ H1) : tFor (Zp.iZipK K ta) g tb D σ H := h
theorem sgs_at {z : Str} {i : Nat} {x : V} (h : (Zp.sgs z)[i]? = some x) : ∃ c, (cs z)[i]? = some c ∧ x = .str ⟨#[c]⟩ := by
  rw [List.getElem?_map] at h
  obtain ⟨c, hc, rfl⟩ := Option.map_eq_some_iff.mp h
  exact ⟨c, hc, rfl⟩
/-- over zip(text, text) -/
theorem l_ZS {K : PySem.W.Frag} {x y : Str} {g : TG} {tb : TS} {D : Ends} {σ : L2.St} {H : Hp} (Pv : Nat → L2.St → Hp → Prop) (p0 : Pv 0 σ H)
    (ht : ∀ i c d σ H p, (cs x)[i]? = some c → (cs y)[i]? = some d → Pv i σ H → H p = none → g (.ref p) σ (upd H p (.tup [.str ⟨#[c]⟩, .str ⟨#[d]⟩])) fun σ2 H2 => tb { D with nx := Pv (i + 1), ct := Pv (i + 1), bk := D.nx } σ2 H2)
    (hd : ∀ σ H, Pv (min x.length y.length) σ H → D.nx σ H) :
    ∃ k1 k2 : Zp.Kd, [V.str x, V.str y] = [k1.v, k2.v] ∧ (∃ xs, k1.has K H xs) ∧ (∃ ys, k2.has K H ys) ∧ LoopW (Zp.ItzK K k1 k2) g tb D σ H := by
  refine ⟨.s x, .s y, rfl, ⟨_, rfl⟩, ⟨_, rfl⟩, for_it (Zp.walk_zipK (xs := Zp.sgs x) (ys := Zp.sgs y) rfl) Pv p0 (fun _ _ _ _ _ => ⟨rfl, rfl⟩) (fun i v σ H H' hi p yy => ?_) fun σ H p => hd σ H ?_⟩
  · obtain ⟨T, a, b, rfl, hT, rfl, ha, hb⟩ := yy
    obtain ⟨c, hc, rfl⟩ := sgs_at ha
    obtain ⟨d, hd', rfl⟩ := sgs_at hb
    exact ht i c d σ H T hc hd' p hT
  · rw [List.length_map, List.length_map, cs_len, cs_len] at p
    exact p
/-! min of a list of data -/
section
variable {prog : Program} {w : World} {A : Around} {E : Value → Shared → Prop} {s : Shared}
theorem min_list_at {l : Addr} {vs : Array Value} {xs : List PyData} {as : List Addr} {Q : Value → Shared → Prop} (hh : A.handled = none) (hl : s.heap.IsList l vs) (hr : ReadsAll s.heap vs.toList xs as) (h0 : 0 < xs.length) (ha : AlikeAll xs) (hu : A.units + 1 + PyData.depthAll xs < cLine)
    (h : ∀ v h' tk, vs[argBest (fun i j => dataLt (xs.getD i .none) (xs.getD j .none)) (xs.length - 1)]? = some v → (∀ b o, s.heap.get? b = some o → h'.get? b = some o) → Q v { s with heap := h', toks := tk }) :
    wpAny (model prog w) A (call (.builtin "min") [.ref l]) Q E s := by
  have hn : vs.size = xs.length := readsAll_len hr
  refine call_min_walkH (iter_listW (A := A.in1) hh hl fun s₂ e W st hfp hw hk => ?_)
  refine ⟨_, _, _, _, _, _, _, s.heap, _, rfl, W, st, hfp, by omega, hw, hk, cmpIn_lt (A := A.in1) hr ha (by show A.units + 1 + _ < _; exact hu), fun v s' hP m => ?_⟩
  obtain ⟨h', tk, rfl, hk'⟩ := moved_old e rfl m
  rw [hn] at hP
  exact h v h' tk hP hk'
end
theorem dpall_reads {X : Cx} {pins : List (Addr × Obj)} {σ : L2.St} {H : Hp} {s : Shared} (I : Inv X pins σ H s) : ∀ {xs : List V} {ds : List PyData} {its : List Value}, DpAll X.K H xs ds → Vals xs its → ∃ as, ReadsAll s.heap its ds as
  | _, _, _, .nil, .nil => ⟨_, .nil⟩
  | _, _, _, .cons h t, .cons r q => by
    obtain ⟨as, r1⟩ := Dp.reads I _ _ _ h r
    obtain ⟨bs, r2⟩ := dpall_reads I t q
    exact ⟨_, .cons r1 r2⟩
def rMinLs (K : PySem.W.Frag) : List V → Hp → VK → Prop := fun vs H Q => ∃ (p : Addr) (xs : List V) (ds : List PyData), vs = [.ref p] ∧ SqL K H p xs ∧ DpAll K H xs ds ∧ 0 < ds.length ∧ AlikeAll ds ∧ PyData.depthAll ds ≤ 60 ∧
  ∀ v, xs[argBest (fun i j => dataLt (ds.getD i .none) (ds.getD j .none)) (ds.length - 1)]? = some v → Q v H
theorem call_minLs {X : Cx} (hc : X.calm = true) (hu : X.A.units + 65 < cLine) : CallR X (.builtin "min") (rMinLs X.K) := by
  intro pins s σ H vs us Q I r h
  obtain ⟨p, xs, ds, rfl, hp, hd, h0, ha, hz, q⟩ := h
  rw [Vals.ref1 r]
  obtain ⟨its, rv, hl, _⟩ := I.list hp
  obtain ⟨as, hr⟩ : ∃ as, ReadsAll s.heap its ds as := dpall_reads I hd rv
  refine min_list_at (I.ok.hd hc) hl.isList (by simpa using hr) h0 ha (by omega) fun v h' tk hv k => ?_
  obtain ⟨x, hx, rx⟩ := Zp.vals_at rv (by simpa using hv)
  exact ⟨x, H, I.kept k, rx, q x hx⟩
/-- the best by a transitive relation: none is less -/
theorem best_least {bt : Nat → Nat → Bool} (tr : ∀ i j k, bt i j = true → bt j k = true → bt i k = true) (irr : ∀ i, bt i i = false) : ∀ n, argBest bt n ≤ n ∧ ∀ j, j ≤ n → bt j (argBest bt n) = false
  | 0 => ⟨Nat.le_refl _, fun j hj => by
    have e : j = 0 := by omega
    subst e
    exact irr 0⟩
  | n + 1 => by
    obtain ⟨h1, h2⟩ := best_least tr irr n
    show (if bt (n + 1) (argBest bt n) = true then n + 1 else argBest bt n) ≤ n + 1 ∧ ∀ j, j ≤ n + 1 → bt j (if bt (n + 1) (argBest bt n) = true then n + 1 else argBest bt n) = false
    by_cases c : bt (n + 1) (argBest bt n) = true
    · rw [if_pos c]
      refine ⟨Nat.le_refl _, fun j hj => ?_⟩
      by_cases e : j = n + 1
      · subst e
        exact irr _
      · cases d : bt j (n + 1) with
        | false => rfl
        | true =>
          have z := tr j (n + 1) _ d c
          rw [h2 j (by omega)] at z
          cases z
    · rw [if_neg c]
      refine ⟨by omega, fun j hj => ?_⟩
      by_cases e : j = n + 1
      · subst e
        simpa using c
      · exact h2 j (by omega)
theorem lt_ints (a b : Int) (xs ys : List PyData) : dataLt (.tuple (.int a :: xs)) (.tuple (.int b :: ys)) = if a = b then dataLt (.tuple xs) (.tuple ys) else decide (a < b) := by
  rw [dataLt_tuple]
  show PyProof.Rows.lexLt itemOrd ([.inl 1] ++ (keyToks (.int a) ++ keyToksAll xs)) ([.inl 1] ++ (keyToks (.int b) ++ keyToksAll ys)) = _
  rw [lex_pre]
  by_cases h : a = b
  · subst h
    rw [lex_pre, if_pos rfl, dataLt_tuple]
  · rw [if_neg h]
    show PyProof.Rows.lexLt itemOrd (.inl a :: keyToksAll xs) (.inl b :: keyToksAll ys) = _
    rw [lex_atom (by intro z; exact h (Sum.inl.inj z))]
    exact dataLt_int a b
/-! four numbers -/
abbrev Q4 := Int × Int × Int × Int
abbrev q4D (x : Q4) : PyData := .tuple [.int x.1, .int x.2.1, .int x.2.2.1, .int x.2.2.2]
def q4Lt (x y : Q4) : Prop := x.1 < y.1 ∨ (x.1 = y.1 ∧ (x.2.1 < y.2.1 ∨ (x.2.1 = y.2.1 ∧ (x.2.2.1 < y.2.2.1 ∨ (x.2.2.1 = y.2.2.1 ∧ x.2.2.2 < y.2.2.2)))))
theorem q4_lt (x y : Q4) : dataLt (q4D x) (q4D y) = true ↔ q4Lt x y := by
  unfold q4Lt
  show dataLt (.tuple (.int x.1 :: _)) (.tuple (.int y.1 :: _)) = true ↔ _
  rw [lt_ints]
  by_cases h1 : x.1 = y.1
  · rw [if_pos h1, lt_ints]
    by_cases h2 : x.2.1 = y.2.1
    · rw [if_pos h2, lt_ints]
      by_cases h3 : x.2.2.1 = y.2.2.1
      · rw [if_pos h3, lt_ints]
        by_cases h4 : x.2.2.2 = y.2.2.2
        · rw [if_pos h4]
          have e : dataLt (.tuple []) (.tuple []) = false := by decide +kernel
          rw [e]
          constructor
          · intro z
            cases z
          · intro z
            omega
        · rw [if_neg h4, decide_eq_true_iff]
          omega
      · rw [if_neg h3, decide_eq_true_iff]
        omega
    · rw [if_neg h2, decide_eq_true_iff]
      omega
  · rw [if_neg h1, decide_eq_true_iff]
    omega
def Q4V (H : Hp) (v : V) (x : Q4) : Prop := ∃ p, v = .ref p ∧ H p = some (.tup [.int x.1, .int x.2.1, .int x.2.2.1, .int x.2.2.2])
instance : Imm Q4V := ⟨fun t h => h.imp fun p z => ⟨z.1, t _ _ z.2⟩⟩
theorem Q4V.dp {K : PySem.W.Frag} {H : Hp} {v : V} {x : Q4} (h : Q4V H v x) : Dp K H v (q4D x) := by
  obtain ⟨p, rfl, hp⟩ := h
  exact .tup (sqT hp) (.cons (.int _) (.cons (.int _) (.cons (.int _) (.cons (.int _) .nil))))
theorem q4_dps {K : PySem.W.Frag} {H : Hp} {xs : List V} {l : List Q4} (h : P2 (Q4V H) xs l) : DpAll K H xs (l.map q4D) := by
  induction h with
  | nil => exact .nil
  | cons h t ih => exact .cons (Q4V.dp h) ih
/-- min(l), l a list of tuples of four numbers -/
theorem r_minQ4 {K : PySem.W.Frag} {H : Hp} {Q : VK} {p : Addr} {xs : List V} {l : List Q4} (hp : H p = some (.lst xs)) (h : P2 (Q4V H) xs l) (h0 : 0 < l.length) (q : ∀ v x, Q4V H v x → x ∈ l → (∀ y ∈ l, ¬ q4Lt y x) → Q v H) : rMinLs K [.ref p] H Q := by
  have dep : PyData.depthAll (l.map q4D) ≤ 60 := by
    clear h0 q h
    induction l with
    | nil => decide
    | cons x r ih =>
      show max (q4D x).depth (PyData.depthAll (r.map q4D)) ≤ 60
      have e : (q4D x).depth ≤ 2 := by simp [q4D, PyData.depth, PyData.depthAll]
      omega
  refine ⟨p, xs, l.map q4D, rfl, sqL hp, q4_dps h, by rw [List.length_map]; exact h0, ⟨fun a ha b hb => ?_, fun a ha z => ?_⟩, dep, fun v hv => ?_⟩
  · obtain ⟨x, _, rfl⟩ := List.mem_map.mp ha
    obtain ⟨y, _, rfl⟩ := List.mem_map.mp hb
    rfl
  · obtain ⟨x, _, rfl⟩ := List.mem_map.mp ha
    cases z
  · rw [List.length_map] at hv
    obtain ⟨x, hx, sx⟩ := h.get hv
    have gd : ∀ {i : Nat} {y : Q4}, l[i]? = some y → (l.map q4D).getD i .none = q4D y := fun {i y} e => by
      rw [List.getD_eq_getElem?_getD, List.getElem?_map, e]; rfl
    have at_ : ∀ i, i < l.length → ∃ y, l[i]? = some y := fun i hi => ⟨_, List.getElem?_eq_getElem hi⟩
    have lt0 : ∀ i, l.length ≤ i → (l.map q4D).getD i .none = PyData.none := fun i hi => by
      rw [List.getD_eq_getElem?_getD, List.getElem?_eq_none (by rw [List.length_map]; exact hi)]; rfl
    refine q v x sx (List.mem_of_getElem? hx) fun y hy hlt => ?_
    obtain ⟨j, hj⟩ := List.getElem?_of_mem hy
    have hjl := (List.getElem?_eq_some_iff.mp hj).1
    -- the best is least: by walking along
    have key : ∀ n, n < l.length → ∃ b, l[argBest (fun i j => dataLt ((l.map q4D).getD i .none) ((l.map q4D).getD j .none)) n]? = some b ∧ ∀ j y, j ≤ n → l[j]? = some y → ¬ q4Lt y b := by
      intro n
      induction n with
      | zero =>
        intro hn
        obtain ⟨b, hb⟩ := at_ 0 hn
        refine ⟨b, hb, fun j y hj hy => ?_⟩
        have e : j = 0 := by omega
        subst e
        rw [hb] at hy
        rw [Option.some.inj hy]
        unfold q4Lt
        omega
      | succ n ih =>
        intro hn
        obtain ⟨b, hb, hmin⟩ := ih (by omega)
        obtain ⟨c, hc⟩ := at_ (n + 1) hn
        show ∃ b, l[if dataLt ((l.map q4D).getD (n + 1) .none) ((l.map q4D).getD (argBest _ n) .none) = true then n + 1 else argBest _ n]? = some b ∧ _
        rw [gd hc, gd hb]
        by_cases e : dataLt (q4D c) (q4D b) = true
        · rw [if_pos e]
          have e' := (q4_lt c b).mp e
          refine ⟨c, hc, fun j y hj hy h => ?_⟩
          by_cases ej : j = n + 1
          · subst ej
            rw [hc] at hy
            cases hy
            unfold q4Lt at h
            omega
          · refine hmin j y (by omega) hy ?_
            unfold q4Lt at h e' ⊢
            omega
        · rw [if_neg e]
          refine ⟨b, hb, fun j y hj hy h => ?_⟩
          by_cases ej : j = n + 1
          · subst ej
            rw [hc] at hy
            cases hy
            exact e ((q4_lt _ _).mpr h)
          · exact hmin j y (by omega) hy h
    obtain ⟨b, hb, hmin⟩ := key (l.length - 1) (by omega)
    rw [hx] at hb
    cases hb
    exact hmin j y (by omega) hj hlt
end Dk

/-! list(zip(a, b)), a and b each a list, a tuple or a text -/
namespace Zl
open PySem PySem.Spec PyProof.Rows L2 Dk Zp PySem.W
section
variable {prog : Program} {w : World} {A : Around} {E : Value → Shared → Prop} {s : Shared} {z TI TO T i1 i2 : Addr} {fp1 fp2 : List Addr} {f : Bool} {oT : Obj} {i n1 n2 : Nat} {P1 P2 : Nat → Value → Prop} {St1 St2 : Nat → Heap → Prop}
theorem next_item_held {Q : Value → Shared → Prop} (S : ZipSep2 z TI TO i1 i2 fp1 fp2) (D1 : Draws prog w A i1 fp1 n1 P1 St1) (D2 : Draws prog w A i2 fp2 n2 P2 St2)
    (hz : IsZipHeld s.heap z TI TO T f) (hT : s.heap.get? T = some oT) (hTI : IsTupOf2 s.heap TI (.ref i1) (.ref i2)) (st1 : St1 i s.heap) (st2 : St2 i s.heap) (hlt1 : i < n1) (hlt2 : i < n2)
    (hQ : ∀ x1 x2 h' tk, P1 i x1 → P2 i x2 → IsZipHeld h' z TI TO T true → St1 (i + 1) h' → St2 (i + 1) h' → IsTupOf2 h' s.heap.objs.size x1 x2 → h'.objs.size = s.heap.objs.size + 1 →
      (∀ c o, c ≠ z → c ≠ i1 → c ≠ i2 → s.heap.get? c = some o → h'.get? c = some o) → Q (.ref s.heap.objs.size) { s with heap := h', toks := tk }) :
    wpAny (model prog w) A (Builtin.«zip.__next__» ⟨[.ref z], []⟩) (fun fin s' => ∃ v, fin = .done (.ret v) ∧ Q v s') E s := by
  obtain ⟨hp, g, d, tk0, os⟩ := s
  show wpAny _ _ (field (.ref z) 2 >>= _) _ _ _
  refine wpAny_bind (wpAny_field hz rfl (x := .bool false) rfl ?_)
  show wpAny _ _ (field (.ref z) 3 >>= _) _ _ _
  refine wpAny_bind (wpAny_field hz rfl (x := .ref TI) rfl ?_)
  refine wpAny_bind (wpAny_seqItems hTI rfl ?_)
  show wpAny _ _ (Builtin.SmallTypes.ownedTupleIsFree (.ref z) >>= _) _ _ _
  refine wpAny_bind (wpAny_tupleHeld_zip hz hT fun h₁ hz₁ hs₁ => ?_)
  replace hs₁ : Heap.SameBut z hp h₁ := hs₁
  simp only [Bool.false_eq_true, if_false]
  refine wpAny_bind ?_
  rw [← Array.forIn_toList]
  simp only [List.forIn_cons, List.forIn_nil]
  refine wpAny_bind (wpAny_bind (wpAny_holding ?_))
  show wpAny _ _ (Builtin.SmallTypes.nextOf (.ref i1) >>= _) _ _ ⟨h₁, g, d, tk0, os⟩
  refine wpAny_bind (D1.item i _ _ _ hlt1 (D1.over st1 hs₁ S.zf1) fun x1 p1 tk1 hx1 sn1 hp1 => wpAny_pure ?_)
  replace hp1 : Heap.SameBut i1 h₁ p1 := hp1
  refine wpAny_pure ?_
  refine wpAny_bind (wpAny_bind (wpAny_holding ?_))
  show wpAny _ _ (Builtin.SmallTypes.nextOf (.ref i2) >>= _) _ _ ⟨p1, g, d, tk1, os⟩
  refine wpAny_bind (D2.item i _ _ _ hlt2 (D2.over (D2.over st2 hs₁ S.zf2) hp1 S.sep1_2) fun x2 p2 tk2 hx2 sn2 hp2 => wpAny_pure ?_)
  replace hp2 : Heap.SameBut i2 p1 p2 := hp2
  refine wpAny_pure (wpAny_pure ?_)
  show wpAny _ _ (newTuple [x1, x2] >>= _) _ _ ⟨p2, g, d, tk2, os⟩
  refine wpAny_bind (wpAny_newTuple ?_)
  have hsz : p2.objs.size = hp.objs.size := by rw [hp2.1, hp1.1, hs₁.1]
  have hz₃ : IsZipHeld p2 z TI TO T true := hp2.extBut _ _ S.zi2 (hp1.extBut _ _ S.zi1 hz₁)
  have hk : ∀ c o, c ≠ z → c ≠ i1 → c ≠ i2 → hp.get? c = some o → p2.get? c = some o := fun c o c1 c2 c3 e => hp2.extBut _ _ c3 (hp1.extBut _ _ c2 (hs₁.extBut _ _ c1 e))
  have hj1 : St1 (i + 1) p2 := D1.over sn1 hp2 S.sep2_1
  refine wpAny_pure ⟨_, rfl, ?_⟩
  show Q (.ref p2.objs.size) ⟨p2.push { cls := .type "tuple", data := .seq #[x1, x2] }, g, d, tk2, os⟩
  have up : ∀ c o, p2.get? c = some o → (p2.push { cls := .type "tuple", data := .seq #[x1, x2] }).get? c = some o := fun c o e => Heap.get?_push_of_some _ e
  have hpT : IsTupOf2 (p2.push { cls := .type "tuple", data := .seq #[x1, x2] }) p2.objs.size x1 x2 := Heap.get?_push_size _ rfl
  have hz4 : (p2.push { cls := .type "tuple", data := .seq #[x1, x2] }).objs.size = p2.objs.size + 1 := Heap.size_push ..
  rw [hsz] at hpT hz4 ⊢
  exact hQ x1 x2 _ tk2 hx1 hx2 (up _ _ hz₃) (D1.frame _ _ _ hj1 fun b _ o e => up b o e) (D2.frame _ _ _ sn2 fun b _ o e => up b o e) hpT hz4 fun c o c1 c2 c3 e => up c o (hk c o c1 c2 c3 e)
theorem next_end_held {Q : Fin → Shared → Prop} (S : ZipSep2 z TI TO i1 i2 fp1 fp2) (D1 : Draws prog w A i1 fp1 n1 P1 St1) (D2 : Draws prog w A i2 fp2 n2 P2 St2)
    (hz : IsZipHeld s.heap z TI TO T f) (hT : s.heap.get? T = some oT) (hTI : IsTupOf2 s.heap TI (.ref i1) (.ref i2)) (st1 : St1 i s.heap) (st2 : St2 i s.heap) (hle1 : i ≤ n1) (hle2 : i ≤ n2) (hend : i = n1 ∨ i = n2)
    (hE : ∀ h' tk e, (∀ c o, c ≠ z → c ≠ i1 → c ≠ i2 → s.heap.get? c = some o → h'.get? c = some o) → (∃ o, h'.get? e = some o ∧ o.cls = .type "StopIteration") → E (.ref e) { s with heap := h', toks := tk }) :
    wpAny (model prog w) A (Builtin.«zip.__next__» ⟨[.ref z], []⟩) Q E s := by
  obtain ⟨hp, g, d, tk0, os⟩ := s
  show wpAny _ _ (field (.ref z) 2 >>= _) _ _ _
  refine wpAny_bind (wpAny_field hz rfl (x := .bool false) rfl ?_)
  show wpAny _ _ (field (.ref z) 3 >>= _) _ _ _
  refine wpAny_bind (wpAny_field hz rfl (x := .ref TI) rfl ?_)
  refine wpAny_bind (wpAny_seqItems hTI rfl ?_)
  show wpAny _ _ (Builtin.SmallTypes.ownedTupleIsFree (.ref z) >>= _) _ _ _
  refine wpAny_bind (wpAny_tupleHeld_zip hz hT fun h₁ hz₁ hs₁ => ?_)
  replace hs₁ : Heap.SameBut z hp h₁ := hs₁
  simp only [Bool.false_eq_true, if_false]
  refine wpAny_bind ?_
  rw [← Array.forIn_toList]
  simp only [List.forIn_cons, List.forIn_nil]
  refine wpAny_bind (wpAny_bind (wpAny_holding ?_))
  show wpAny _ _ (Builtin.SmallTypes.nextOf (.ref i1) >>= _) _ _ ⟨h₁, g, d, tk0, os⟩
  by_cases hlt1 : i < n1
  · refine wpAny_bind (D1.item i _ _ _ hlt1 (D1.over st1 hs₁ S.zf1) fun x1 p1 tk1 hx1 sn1 hp1 => wpAny_pure ?_)
    replace hp1 : Heap.SameBut i1 h₁ p1 := hp1
    have hi2 : i = n2 := by omega
    refine wpAny_pure ?_
    refine wpAny_bind (wpAny_bind (wpAny_holding ?_))
    show wpAny _ _ (Builtin.SmallTypes.nextOf (.ref i2) >>= _) _ _ ⟨p1, g, d, tk1, os⟩
    refine wpAny_bind (D2.done ⟨p1, g, d, tk1, os⟩ _ _ (by rw [← hi2]; exact D2.over (D2.over st2 hs₁ S.zf2) hp1 S.sep1_2) fun q e hq he => ?_)
    replace hq : Heap.ExtBut i2 p1 q := hq
    exact hE q tk1 e (fun c o cz c1 c2 x => hq _ _ c2 (hp1.extBut _ _ c1 (hs₁.extBut _ _ cz x))) he
  · have hi1 : i = n1 := by omega
    refine wpAny_bind (D1.done ⟨h₁, g, d, tk0, os⟩ _ _ (by rw [← hi1]; exact D1.over st1 hs₁ S.zf1) fun q e hq he => ?_)
    replace hq : Heap.ExtBut i1 h₁ q := hq
    exact hE q tk0 e (fun c o cz c1 c2 x => hq _ _ c1 (hs₁.extBut _ _ cz x)) he
theorem pyNext_item_held {Q : Option Value → Shared → Prop} (S : ZipSep2 z TI TO i1 i2 fp1 fp2) (D1 : Draws prog w A.in1 i1 fp1 n1 P1 St1) (D2 : Draws prog w A.in1 i2 fp2 n2 P2 St2)
    (hz : IsZipHeld s.heap z TI TO T f) (hT : s.heap.get? T = some oT) (hTI : IsTupOf2 s.heap TI (.ref i1) (.ref i2)) (st1 : St1 i s.heap) (st2 : St2 i s.heap) (hlt1 : i < n1) (hlt2 : i < n2)
    (hQ : ∀ x1 x2 h' tk, P1 i x1 → P2 i x2 → IsZipHeld h' z TI TO T true → St1 (i + 1) h' → St2 (i + 1) h' → IsTupOf2 h' s.heap.objs.size x1 x2 → h'.objs.size = s.heap.objs.size + 1 →
      (∀ c o, c ≠ z → c ≠ i1 → c ≠ i2 → s.heap.get? c = some o → h'.get? c = some o) → Q (some (.ref s.heap.objs.size)) { s with heap := h', toks := tk }) :
    wpAny (model prog w) A (pyNext (.ref z)) Q E s := by
  have hTy : s.TypeIs (.ref z) "zip" := ⟨_, hz, rfl⟩
  unfold pyNext
  exact wpAny_bind (wpAny_attempt (wpAny_callSpecial?_slot (name := Str.ofString "__next__") hTy F.slot_zip_next
    (wpAny_call_entry F.slot_zip_next hTy F.entry_zip_next
      (next_item_held S D1 D2 hz hT hTI st1 st2 hlt1 hlt2 fun x1 x2 h' tk y1 y2 b1 d1 d2 b5 b6 b7 => wpAny_pure (hQ x1 x2 h' tk y1 y2 b1 d1 d2 b5 b6 b7)) (F.args_zip_next_1 _))))
theorem pyNext_end_held {Q : Option Value → Shared → Prop} (S : ZipSep2 z TI TO i1 i2 fp1 fp2) (D1 : Draws prog w A.in1 i1 fp1 n1 P1 St1) (D2 : Draws prog w A.in1 i2 fp2 n2 P2 St2)
    (hz : IsZipHeld s.heap z TI TO T f) (hT : s.heap.get? T = some oT) (hTI : IsTupOf2 s.heap TI (.ref i1) (.ref i2)) (st1 : St1 i s.heap) (st2 : St2 i s.heap) (hle1 : i ≤ n1) (hle2 : i ≤ n2) (hend : i = n1 ∨ i = n2)
    (hQ : ∀ h' tk, (∀ c o, c ≠ z → c ≠ i1 → c ≠ i2 → s.heap.get? c = some o → h'.get? c = some o) → Q none { s with heap := h', toks := tk }) : wpAny (model prog w) A (pyNext (.ref z)) Q E s := by
  have hTy : s.TypeIs (.ref z) "zip" := ⟨_, hz, rfl⟩
  unfold pyNext
  refine wpAny_bind (wpAny_attempt (wpAny_callSpecial?_slot (name := Str.ofString "__next__") hTy F.slot_zip_next
    (wpAny_call_entry F.slot_zip_next hTy F.entry_zip_next (next_end_held S D1 D2 hz hT hTI st1 st2 hle1 hle2 hend fun h' tk e hk he => ?_) (F.args_zip_next_1 _))))
  obtain ⟨o, ho, hc⟩ := he
  refine wpAny_bind (wpAny_isInstance (T := "StopIteration") (b := true) ⟨o, ho, hc⟩ isSubtype_stop ?_)
  exact wpAny_pure (hQ _ _ hk)
end
theorem zip_no_len : typeLookup (.type "zip") "__len__" = pure none := am_miss_of_fast (by decide +kernel)
theorem zip_no_hint : typeLookup (.type "zip") "__length_hint__" = pure none := am_miss_of_fast (by decide +kernel)

section
variable {X : Cx} {pins : List (Addr × Obj)} {σ : L2.St} {H : Hp} {s : Shared} {A : Around}
theorem kd_draws (I : Inv X pins σ H s) (hh : A.handled = none) {k : Kd} {xs : List V} (hq : k.has X.K H xs) {it : Addr} (hne : k.ap it) {tk : Tok} {i : Nat} (st : k.st tk it i s.heap) :
    ∃ (fp : List Addr) (P : Nat → Value → Prop) (St : Nat → Heap → Prop), Draws X.prog X.w A it fp xs.length P St ∧ St i s.heap ∧ (∀ j v, P j v → ∃ x, xs[j]? = some x ∧ RelV x v) ∧ (∀ j h, St j h → k.st tk it j h) ∧ it ∈ fp ∧ ∀ q ∈ fp, q = it ∨ ¬ k.ap q := by
  cases k with
  | l a =>
    obtain ⟨its, rv, p, _⟩ := I.list hq
    have e : its.toArray.size = xs.length := by rw [List.size_toArray]; exact rv.length.symm
    have D := Draws.list (prog := X.prog) (w := X.w) hh it a hne its.toArray
    rw [e] at D
    refine ⟨_, _, _, D, ⟨st, p.isList⟩, fun j v hv => vals_at rv (by simpa using hv), fun j h z => z.1, by simp, fun q hq => ?_⟩
    rcases List.mem_cons.mp hq with z | z
    · exact .inl z
    · exact .inr fun c => c (List.mem_singleton.mp z).symm
  | t a =>
    obtain ⟨its, rv, p, _⟩ := I.tuple hq
    have e : its.toArray.size = xs.length := by rw [List.size_toArray]; exact rv.length.symm
    have D := Draws.tuple (prog := X.prog) (w := X.w) hh it a hne its.toArray
    rw [e] at D
    refine ⟨_, _, _, D, ⟨st, p⟩, fun j v hv => vals_at rv (by simpa using hv), fun j h z => z.1, by simp, fun q hq => ?_⟩
    rcases List.mem_cons.mp hq with z | z
    · exact .inl z
    · exact .inr fun c => c (List.mem_singleton.mp z).symm
  | s z =>
    obtain rfl : xs = sgs z := hq
    have e : z.cps.size = (sgs z).length := by simp [sgs, cs]
    have D := Draws.text (prog := X.prog) (w := X.w) hh it z tk
    rw [e] at D
    refine ⟨_, _, _, D, st, fun j v hv => ?_, fun j h q => q, by simp, fun q hq => .inl (List.mem_singleton.mp hq)⟩
    obtain ⟨c, u, hc, rfl⟩ := hv
    refine ⟨.str ⟨#[c]⟩, ?_, u, rfl⟩
    show ((cs z).map _)[j]? = _
    rw [List.getElem?_map, show (cs z)[j]? = some c by rw [Array.getElem?_toList]; exact hc]
    rfl
theorem has_up {K : PySem.W.Frag} {G G' : Hp} (e : Ex G G') {k : Kd} {xs : List V} (h : k.has K G xs) : k.has K G' xs := by
  cases k with
  | l a => exact SqL.up e h
  | t a => exact SqT.up e h
  | s z => exact h
/-- what the zip knows of the tuple that it gave out -/
def ZO (h : Heap) (z TI TO : Addr) : Option Addr → Prop
  | none => IsZip h z TI TO .none ∧ ∃ x y, IsTupOf2 h TO x y
  | some T => ∃ f oT, IsZipHeld h z TI TO T f ∧ h.get? T = some oT
structure ZSt (k1 k2 : Kd) (tk1 tk2 : Tok) (z TI TO i1 i2 : Addr) (T0 : Option Addr) (i : Nat) (h : Heap) : Prop where
  zo : ZO h z TI TO T0
  to : ∃ o, h.get? TO = some o
  ti : IsTupOf2 h TI (.ref i1) (.ref i2)
  s1 : k1.st tk1 i1 i h
  s2 : k2.st tk2 i2 i h
theorem ZSt.keep {k1 k2 : Kd} {tk1 tk2 : Tok} {z TI TO i1 i2 : Addr} {T0 : Option Addr} {i : Nat} {h h' : Heap} (st : ZSt k1 k2 tk1 tk2 z TI TO i1 i2 T0 i h)
    (k : ∀ b, (b ∈ [z, TI, TO, i1, i2] ∨ T0 = some b) → ∀ o, h.get? b = some o → h'.get? b = some o) : ZSt k1 k2 tk1 tk2 z TI TO i1 i2 T0 i h' where
  zo := by
    have q := st.zo
    cases T0 with
    | none => exact ⟨k z (.inl (by simp)) _ q.1, q.2.imp fun x y => y.imp fun y p => k TO (.inl (by simp)) _ p⟩
    | some T =>
      obtain ⟨f, oT, h1, h2⟩ := q
      exact ⟨f, oT, k z (.inl (by simp)) _ h1, k T (.inr rfl) _ h2⟩
  to := st.to.imp fun o q => k TO (.inl (by simp)) _ q
  ti := k TI (.inl (by simp)) _ st.ti
  s1 := Kd.st_keep st.s1 fun o q => k i1 (.inl (by simp)) o q
  s2 := Kd.st_keep st.s2 fun o q => k i2 (.inl (by simp)) o q
theorem zs_item {E : Value → Shared → Prop} (hh : A.in1.handled = none) (I : Inv X pins σ H s) {k1 k2 : Kd} {xs ys : List V} (hqx : k1.has X.K H xs) (hqy : k2.has X.K H ys) {z TI TO i1 i2 : Addr} (D : Ap z TI TO i1 i2 k1 k2) {tk1 tk2 : Tok} {T0 : Option Addr}
    (hT0 : ∀ T, T0 = some T → T ∉ [z, TI, TO, i1, i2]) {i : Nat} (st : ZSt k1 k2 tk1 tk2 z TI TO i1 i2 T0 i s.heap) (hf : ∀ c ∈ [z, TI, TO, i1, i2], FpOk X pins H c) (hx : i < xs.length) (hy : i < ys.length) {Q : Option Value → Shared → Prop}
    (h : ∀ x y h' tk T1, xs[i]? = some x → ys[i]? = some y → Inv X pins σ (upd H s.heap.objs.size (.tup [x, y])) { s with heap := h', toks := tk } → T1 ∉ [z, TI, TO, i1, i2] → (T1 = s.heap.objs.size ∨ T0 = some T1) →
      ZSt k1 k2 tk1 tk2 z TI TO i1 i2 (some T1) (i + 1) h' → (∀ c ∈ [z, TI, TO, i1, i2], FpOk X pins (upd H s.heap.objs.size (.tup [x, y])) c) → (∀ c o, c ∉ [z, TI, TO, i1, i2] → s.heap.get? c = some o → h'.get? c = some o) → Q (some (.ref s.heap.objs.size)) { s with heap := h', toks := tk }) :
    wpAny (model X.prog X.w) A (pyNext (.ref z)) Q E s := by
  obtain ⟨hzo, ⟨oTO, hTOo⟩, hTI, h1, h2⟩ := st
  obtain ⟨fp1, P1, St1, D1, st1, g1, b1, m1, f1⟩ := kd_draws I hh hqx D.a1.2.2.1 h1
  obtain ⟨fp2, P2, St2, D2, st2, g2, b2, m2, f2⟩ := kd_draws I hh hqy D.a2.2.2.2 h2
  have S := D.sep m1 f1 m2 f2
  have lt : ∀ c ∈ [z, TI, TO, i1, i2], c ≠ TO → c < s.heap.objs.size := fun c hcm hTO => by
    have e' : c = z ∨ c = TI ∨ c = TO ∨ c = i1 ∨ c = i2 := by simpa using hcm
    rcases e' with q | q | q | q | q
    · rw [q]
      cases T0 with
      | none => exact Heap.lt_size hzo.1
      | some T => obtain ⟨_, _, e1, _⟩ := hzo; exact Heap.lt_size e1
    · rw [q]; exact Heap.lt_size hTI
    · exact absurd q hTO
    · rw [q]; obtain ⟨_, e1, _⟩ := Kd.st_obj h1; exact Heap.lt_size e1
    · rw [q]; obtain ⟨_, e2, _⟩ := Kd.st_obj h2; exact Heap.lt_size e2
  have fin : ∀ (u u2 : Value) (h' : Heap) (tk : Nat) (T1 : Addr), P1 i u → P2 i u2 → St1 (i + 1) h' → St2 (i + 1) h' → IsTupOf2 h' s.heap.objs.size u u2 → (∀ c o, c ∉ [z, TI, TO, i1, i2] → s.heap.get? c = some o → h'.get? c = some o) → IsTupOf2 h' TI (.ref i1) (.ref i2) → (∃ o, h'.get? TO = some o) →
      ZO h' z TI TO (some T1) → T1 ∉ [z, TI, TO, i1, i2] → (T1 = s.heap.objs.size ∨ T0 = some T1) → (∀ c ∈ [z, TI, TO, i1, i2], c ≠ s.heap.objs.size) → Q (some (.ref s.heap.objs.size)) { s with heap := h', toks := tk } := fun u u2 h' tk T1 p1 p2 s1' s2' hT hk ti to zo n1 n2 nc => by
    obtain ⟨x, hxx, ru⟩ := g1 _ _ p1
    obtain ⟨y, hyy, ru2⟩ := g2 _ _ p2
    have new : ObjOk X.prog X.w (upd H s.heap.objs.size (.tup [x, y])) h' s.heap.objs.size (.tup [x, y]) :=
      ⟨by show 2 ≤ sizeLine; decide, [u, u2], .cons ru (.cons ru2 .nil), ⟨_, hT, rfl, _, rfl⟩⟩
    have I1 : Inv X pins σ (upd H s.heap.objs.size (.tup [x, y])) { s with heap := h', toks := tk } :=
      I.turnedNew (t' := tk) (ch := [z, TI, TO, i1, i2]) hk hf (Nat.le_refl _) new
    exact h x y h' tk T1 hxx hyy I1 n1 n2 ⟨zo, to, ti, b1 _ _ s1', b2 _ _ s2'⟩ (fun c hc => ⟨by rw [upd_ne (nc c hc)]; exact (hf c hc).1, (hf c hc).2⟩) hk
  cases T0 with
  | none =>
    obtain ⟨hz, x0, y0, hTO⟩ := hzo
    have nc : ∀ c ∈ [z, TI, TO, i1, i2], c ≠ s.heap.objs.size := fun c hc => by
      by_cases e : c = TO
      · rw [e]; exact Nat.ne_of_lt (Heap.lt_size hTO)
      · exact Nat.ne_of_lt (lt c hc e)
    refine wpAny_pyNext_zipD2_item S D1 D2 hz hTI hTO st1 st2 hx hy fun u u2 h' tk p1 p2 z' TO' s1' s2' hT hsz hk => ?_
    exact fin u u2 h' tk s.heap.objs.size p1 p2 s1' s2' hT (fun c o hb q => hk c o (fun q' => hb (by simp [q'])) (fun q' => hb (by simp [q'])) (fun q' => hb (by simp [q'])) (fun q' => hb (by simp [q'])) q)
      (hk _ _ D.TIz D.TITO D.TIi1 D.TIi2 hTI) ⟨_, TO'⟩ ⟨false, _, z', hT⟩ (fun hc => nc _ hc rfl) (.inl rfl) nc
  | some T =>
    obtain ⟨f, oT, hz, hgT⟩ := hzo
    have nT := hT0 T rfl
    have nc : ∀ c ∈ [z, TI, TO, i1, i2], c ≠ s.heap.objs.size := fun c hc z => by
      have q := (hf c hc).1
      by_cases e : c = TO
      · exact Nat.lt_irrefl _ (z ▸ e ▸ Heap.lt_size hTOo)
      · exact Nat.lt_irrefl _ (z ▸ lt c hc e)
    refine pyNext_item_held S D1 D2 hz hgT hTI st1 st2 hx hy fun u u2 h' tk p1 p2 z' s1' s2' hT hsz hk => ?_
    exact fin u u2 h' tk T p1 p2 s1' s2' hT (fun c o hb q => hk c o (fun q' => hb (by simp [q'])) (fun q' => hb (by simp [q'])) (fun q' => hb (by simp [q'])) q)
      (hk _ _ D.TIz D.TIi1 D.TIi2 hTI) ⟨_, hk _ _ D.TOz D.TOi1 D.TOi2 hTOo⟩ ⟨true, oT, z', hk _ _ (fun q => nT (by simp [q])) (fun q => nT (by simp [q])) (fun q => nT (by simp [q])) hgT⟩ nT (.inr rfl) nc
theorem zs_done {E : Value → Shared → Prop} (hh : A.in1.handled = none) (I : Inv X pins σ H s) {k1 k2 : Kd} {xs ys : List V} (hqx : k1.has X.K H xs) (hqy : k2.has X.K H ys) {z TI TO i1 i2 : Addr} (D : Ap z TI TO i1 i2 k1 k2) {tk1 tk2 : Tok} {T0 : Option Addr}
    {i : Nat} (st : ZSt k1 k2 tk1 tk2 z TI TO i1 i2 T0 i s.heap) (hf : ∀ c ∈ [z, TI, TO, i1, i2], FpOk X pins H c) (hx : i ≤ xs.length) (hy : i ≤ ys.length) (he : i = xs.length ∨ i = ys.length) {Q : Option Value → Shared → Prop}
    (h : ∀ h' tk, Inv X pins σ H { s with heap := h', toks := tk } → Q none { s with heap := h', toks := tk }) : wpAny (model X.prog X.w) A (pyNext (.ref z)) Q E s := by
  obtain ⟨hzo, ⟨oTO, hTOo⟩, hTI, h1, h2⟩ := st
  obtain ⟨fp1, P1, St1, D1, st1, g1, b1, m1, f1⟩ := kd_draws I hh hqx D.a1.2.2.1 h1
  obtain ⟨fp2, P2, St2, D2, st2, g2, b2, m2, f2⟩ := kd_draws I hh hqy D.a2.2.2.2 h2
  have S := D.sep m1 f1 m2 f2
  have fin : ∀ h' tk, (∀ c o, c ∉ [z, TI, TO, i1, i2] → s.heap.get? c = some o → h'.get? c = some o) → Q none { s with heap := h', toks := tk } := fun h' tk hk =>
    h h' tk (I.turnedL (t' := tk) (ch := [z, TI, TO, i1, i2]) hk hf)
  cases T0 with
  | none =>
    obtain ⟨hz, x0, y0, hTO⟩ := hzo
    exact wpAny_pyNext_zipD2_end S D1 D2 hz hTI hTO st1 st2 hx hy he fun h' tk hk => fin h' tk fun c o hb q => hk c o (fun q' => hb (by simp [q'])) (fun q' => hb (by simp [q'])) (fun q' => hb (by simp [q'])) (fun q' => hb (by simp [q'])) q
  | some T =>
    obtain ⟨f, oT, hz, hgT⟩ := hzo
    exact pyNext_end_held S D1 D2 hz hgT hTI st1 st2 hx hy he fun h' tk hk => fin h' tk fun c o hb q => hk c o (fun q' => hb (by simp [q'])) (fun q' => hb (by simp [q'])) (fun q' => hb (by simp [q'])) q
/-- a pair of things, by value -/
def PqV (H : Hp) (v : V) (q : V × V) : Prop := ∃ t, v = .ref t ∧ H t = some (.tup [q.1, q.2])
instance : Imm PqV := ⟨fun t h => h.imp fun p z => ⟨z.1, t _ _ z.2⟩⟩
theorem zip_take {α β : Type} {xs : List α} {ys : List β} {i : Nat} {x : α} {y : β} (h1 : xs[i]? = some x) (h2 : ys[i]? = some y) : (xs.zip ys).take (i + 1) = (xs.zip ys).take i ++ [(x, y)] := by
  rw [List.take_add_one, (List.getElem?_zip_eq_some (z := (x, y))).mpr ⟨h1, h2⟩]
  rfl
theorem zl_loop {R : Result → Shared → Prop} {H1 : Hp} {k1 k2 : Kd} {xs ys : List V} (hx1 : k1.has X.K H1 xs) (hy1 : k2.has X.K H1 ys) {z TI TO i1 i2 : Addr} (D : Ap z TI TO i1 i2 k1 k2) {tk1 tk2 : Tok} {S : Addr} (hS1 : H1 S = none) (hSn : S ∉ [z, TI, TO, i1, i2]) (hh : A.in1.in1.handled = none)
    (hz : xs.length ≤ sizeLine) (hz2 : ys.length ≤ sizeLine) (res : Value) (hR : ∀ H' s' acc, Inv X pins σ H' s' → Ex H1 H' → H' S = some (.lst acc) → P2 (PqV H') acc (xs.zip ys) → R (.ok (.ret res)) s') :
    ∀ (k i : Nat) (s : Shared) (H : Hp) (acc : List V) (T0 : Option Addr), min xs.length ys.length - i = k → i ≤ min xs.length ys.length → Inv X pins σ H s → Ex H1 H → H S = some (.lst acc) → P2 (PqV H) acc ((xs.zip ys).take i) → (∀ T, T0 = some T → T ∉ [z, TI, TO, i1, i2] ∧ T ≠ S) →
      ZSt k1 k2 tk1 tk2 z TI TO i1 i2 T0 i s.heap → (∀ c ∈ [z, TI, TO, i1, i2], FpOk X pins H c) → codeAny (model X.prog X.w) A (.builtin "list.extend.loop" ⟨[.ref S, .ref z, res], []⟩) R s := by
  intro k
  induction k with
  | zero =>
    intro i s H acc T0 hk hi I e hS hP hT0 st hf
    refine codeAny_builtin PySem.F.entry_extend_loop ?_
    rw [Around.under_plainId PySem.F.plain_extend_loop _]
    show wpAny _ A.in1 (pyNext (.ref z) >>= _) _ _ _
    refine wpAny_bind (zs_done (A := A.in1) hh I (has_up e hx1) (has_up e hy1) D st hf (by omega) (by omega) (by omega) fun h' tk I' => ?_)
    refine wpAny_pure (hR _ _ acc I' e hS ?_)
    rw [List.take_of_length_le (by rw [List.length_zip]; omega)] at hP
    exact hP
  | succ k ih =>
    intro i s H acc T0 hk hi I e hS hP hT0 st hf
    have al := hP.len
    rw [List.length_take, List.length_zip] at al
    refine codeAny_builtin PySem.F.entry_extend_loop ?_
    rw [Around.under_plainId PySem.F.plain_extend_loop _]
    show wpAny _ A.in1 (pyNext (.ref z) >>= _) _ _ _
    refine wpAny_bind (zs_item (A := A.in1) hh I (has_up e hx1) (has_up e hy1) D (fun T h => (hT0 T h).1) st hf (by omega) (by omega) fun x y h' tk T1 hx hy I1 n1 n2 st' hf' hk' => ?_)
    have hSs : S ≠ s.heap.objs.size := fun q => by
      have z := I.fresh
      rw [← q, hS] at z
      cases z
    have hS2 : (upd H s.heap.objs.size (.tup [x, y])) S = some (.lst acc) := by rw [upd_ne hSs]; exact hS
    obtain ⟨z1, its, n, r, hl, eS⟩ := I1.lstM hS2
    have T1S : T1 ≠ S := by
      rcases n2 with q | q
      · rw [q]; exact Ne.symm hSs
      · exact (hT0 T1 q).2
    show wpAny _ A.in1 (updateSeq S (·.push (Value.ref s.heap.objs.size)) >>= _) _ _ { s with heap := h', toks := tk }
    refine wpAny_bind ?_
    have I2 := I1.lset (ys := acc ++ [.ref s.heap.objs.size]) (its' := its ++ [.ref s.heap.objs.size]) (f := fun a => a.push (Value.ref s.heap.objs.size)) (t' := tk) hS2 eS (by simp) (r.append (.cons (show L2.RelV (V.ref s.heap.objs.size) (Value.ref s.heap.objs.size) from rfl) .nil)) (by rw [List.length_append, List.length_singleton]; omega)
    refine wpAny_updateSeq eS rfl (wpAny_pure ⟨plainId_quiet PySem.F.plain_extend_loop _, ih (i + 1) _ _ (acc ++ [.ref s.heap.objs.size]) (some T1) (by omega) (by omega) I2 ?_ upd_same ?_ ?_ ?_ ?_⟩) ?_ ?_
    · exact Same.mut (e.trans (Same.new (Same.refl H) I.fresh)) hS1
    · rw [zip_take hx hy]
      have tn : Tk H (upd H s.heap.objs.size (.tup [x, y])) := .ex (Same.new (Same.refl H) I.fresh)
      have tp := Tk.put (o := .lst (acc ++ [.ref s.heap.objs.size])) hS2
      exact (p2_imm (tn.trans tp) hP).snoc (imm tp ⟨_, rfl, upd_same⟩)
    · intro T hT
      cases hT
      exact ⟨n1, T1S⟩
    · refine st'.keep fun b hb o q => (Heap.get?_update_other _ _ ?_).trans q
      rcases hb with hb | hb
      · exact fun q0 => hSn (by rw [q0]; exact hb)
      · cases hb
        exact Ne.symm T1S
    · intro c hc
      exact ⟨by rw [upd_ne fun q0 => hSn (by rw [← q0]; exact hc)]; exact (hf' c hc).1, (hf' c hc).2⟩
    · rw [List.size_toArray]
      omega
    · show (its.toArray.push _).size ≤ sizeLine + 1
      rw [Array.size_push, List.size_toArray]
      omega
def tListZip (K : PySem.W.Frag) (ta : TA) : TE := fun σ H Q => ta σ H fun vs H1 => ∃ (k1 k2 : Kd) (xs ys : List V), vs = [k1.v, k2.v] ∧ k1.has K H1 xs ∧ k2.has K H1 ys ∧ xs.length ≤ sizeLine ∧ ys.length ≤ sizeLine ∧
  ∀ p H' acc, Ex H1 H' → H1 p = none → H' p = some (.lst acc) → P2 (PqV H') acc (xs.zip ys) → Q (.ref p) H'
theorem pe_listZip {e e2 : Expr} {ta : TA} {p p2 pos pos2 : Pos} (hc : X.calm = true) (hg : Gl X "list") (hm : X.mg "list" = none) (hgz : Gl X "zip") (hmz : X.mg "zip" = none) (ha : PA X [e, e2] ta)
    (hs : starEach [.Call (.Name "zip" p2) [e, e2] [] pos2] X.env = (false, eval (.Call (.Name "zip" p2) [e, e2] [] pos2) X.env) :: starEach [] X.env := by rfl)
    (hs2 : starEach [e, e2] X.env = (false, eval e X.env) :: starEach [e2] X.env := by rfl) (hpl : (backTo pos2 (starEach [e2] X.env)).any (·.1) = false := by rfl) :
    PE X (.Call (.Name "list" p) [.Call (.Name "zip" p2) [e, e2] [] pos2] [] pos) (tListZip X.K ta) := by
  refine ⟨fun pins s σ H Q I h => ?_⟩
  refine wpAny_Call_Name_kw (ld_blt I hg hm boot_list ?_)
  refine PyProof.Rows.callWith_type1 ?_ hs rfl
  rw [hs]
  show wpAny _ _ (spliced ((false, eval (.Call (.Name "zip" p2) [e, e2] [] pos2) X.env) :: backTo pos (starEach [] X.env))) _ _ s
  refine Calls.spliced_cons ?_
  refine Call_ (ld_blt I hgz hmz PyProof.Rows.boot_zip (PyProof.Rows.callWith_type1 (thn (ha.run pos2 pins s σ H _ I h) fun us s1 ⟨vs, H1, I1, r1, q1⟩ => ?_) hs2 hpl))
  obtain ⟨k1, k2, xs, ys, ex, hx, hy, lx, ly, q⟩ := q1
  subst ex
  cases r1 with
  | cons r rr =>
    cases rr with
    | cons r' rr =>
      cases rr
      obtain ⟨o1, HH1, tk1, B1, g1, st1, ap1⟩ := Kd.begins I1 hx r
      obtain ⟨o2, HH2, tk2, B2, g2, st2, ap2⟩ := Kd.begins I1 hy r'
      refine zip_begins2 B1 B2 g1 g2 fun h' hz hTI hTO h1 h2 hsz hk => ?_
      have I2 : Inv X pins σ H1 { s1 with heap := h' } := I1.kept (t' := s1.toks) hk
      have fresh5 : ∀ c, c ∈ [s1.heap.objs.size + 4, s1.heap.objs.size + 2, s1.heap.objs.size + 3, s1.heap.objs.size, s1.heap.objs.size + 1] → FpOk X pins H1 c := fun c hcm => by
        have hle : s1.heap.objs.size ≤ c := by
          have e' : c = s1.heap.objs.size + 4 ∨ c = s1.heap.objs.size + 2 ∨ c = s1.heap.objs.size + 3 ∨ c = s1.heap.objs.size ∨ c = s1.heap.objs.size + 1 := by simpa using hcm
          omega
        exact I1.fpOk hle (I1.hok.fresh hle)
      have ap : Ap (s1.heap.objs.size + 4) (s1.heap.objs.size + 2) (s1.heap.objs.size + 3) s1.heap.objs.size (s1.heap.objs.size + 1) k1 k2 :=
        ⟨ne_nat (by omega), ne_nat (by omega), ne_nat (by omega), ne_nat (by omega), ne_nat (by omega), ne_nat (by omega), ne_nat (by omega), ne_nat (by omega), ne_nat (by omega), ne_nat (by omega), ⟨ap1 _ (by omega), ap1 _ (by omega), ap1 _ (by omega), ap1 _ (by omega)⟩, ⟨ap2 _ (by omega), ap2 _ (by omega), ap2 _ (by omega), ap2 _ (by omega)⟩⟩
      have zst : ZSt k1 k2 tk1 tk2 (s1.heap.objs.size + 4) (s1.heap.objs.size + 2) (s1.heap.objs.size + 3) s1.heap.objs.size (s1.heap.objs.size + 1) none 0 h' := ⟨⟨hz, _, _, hTO⟩, ⟨_, hTO⟩, hTI, st1 _ _ h1, st2 _ _ h2⟩
      have lt : ∀ c, c ∈ [s1.heap.objs.size + 4, s1.heap.objs.size + 2, s1.heap.objs.size + 3, s1.heap.objs.size, s1.heap.objs.size + 1] → c < h'.objs.size := fun c hcm => by
        have e' : c = s1.heap.objs.size + 4 ∨ c = s1.heap.objs.size + 2 ∨ c = s1.heap.objs.size + 3 ∨ c = s1.heap.objs.size ∨ c = s1.heap.objs.size + 1 := by simpa using hcm
        have hzl := Heap.lt_size hz
        omega
      generalize hzz : s1.heap.objs.size + 4 = z at *
      generalize s1.heap.objs.size + 2 = TI at *
      generalize s1.heap.objs.size + 3 = TO at *
      generalize s1.heap.objs.size + 1 = i2 at *
      generalize hi1 : s1.heap.objs.size = i1 at *
      refine Calls.spliced_nil ?_
      refine callType_codes (Q₁ := fun obj s₁ => obj = .ref h'.objs.size ∧ s₁ = { s1 with heap := h'.push { cls := .type "list", data := .seq #[] } }) PySem.F.called_list (PySem.F.typeCall_list_1 _) PySem.F.entry_list_init
        (code_list_new _ ⟨rfl, rfl⟩) fun obj s₁ h₁ => ?_
      obtain ⟨rfl, rfl⟩ := h₁
      have hSn : H1 h'.objs.size = none := I2.hok.fresh (Nat.le_refl _)
      have I3 := I2.lnew (ys := []) (its := []) (t' := s1.toks) .nil (Nat.zero_le _)
      have hS : (h'.push { cls := .type "list", data := .seq #[] }).get? h'.objs.size = some { cls := .type "list", data := .seq ([] : List Value).toArray } := Heap.get?_push_size _ rfl
      have sn : h'.objs.size ∉ [z, TI, TO, i1, i2] := fun hcm => Nat.lt_irrefl _ (lt _ hcm)
      refine ⟨⟨_, hS, rfl⟩, PySem.F.args_list_init_2 _ _, ?_⟩
      show wpAny _ X.A.in1.in1 (do let old ← Builtin.List.listItems (.ref h'.objs.size); Builtin.List.listUpdate (.ref h'.objs.size) (fun _ => #[]); letGo old.toList.reverse; Builtin.List.listExtendWith (.ref h'.objs.size) (.ref z) .none) _ _ _
      refine wpAny_bind ?_
      unfold Builtin.List.listItems
      refine wpAny_bind (wpAny_seqItems hS rfl (wpAny_pure ?_))
      show wpAny _ X.A.in1.in1 (updateSeq h'.objs.size (fun _ => #[]) >>= fun _ => letGo (#[] : Array Value).toList.reverse >>= fun _ => Builtin.List.listExtendWith (.ref h'.objs.size) (.ref z) .none) _ _ _
      refine wpAny_bind (wpAny_updateSeq hS rfl ?_)
      have I4 := I3.lset (l := h'.objs.size) (xs := []) (ys := []) (its := []) (its' := []) (f := fun _ => #[]) (t' := s1.toks) upd_same hS rfl .nil (Nat.zero_le _)
      have hS2 := Heap.get?_update_self (Obj.mapSeq (fun _ => (#[] : Array Value))) hS rfl
      refine wpAny_bind (wpAny_letGo ?_)
      unfold Builtin.List.listExtendWith
      have up : ∀ (hh : Heap) (f : Obj → Obj), (∀ b o, b ≠ h'.objs.size → h'.get? b = some o → hh.get? b = some o) → ∀ b o, b ≠ h'.objs.size → h'.get? b = some o → (hh.update h'.objs.size f).get? b = some o := fun hh f q b o n e =>
        (Heap.get?_update_other _ _ (Ne.symm n)).trans (q b o n e)
      have u1 : ∀ b o, b ≠ h'.objs.size → h'.get? b = some o → (h'.push { cls := .type "list", data := .seq #[] }).get? b = some o := fun b o _ e => Heap.get?_push_of_some _ e
      have u2 := up _ (Obj.mapSeq (fun _ => (#[] : Array Value))) u1
      have zS : z ≠ h'.objs.size := Nat.ne_of_lt (Heap.lt_size hz)
      have hz2 := u2 _ _ zS hz
      refine wpAny_bind (wpAny_typeOf (T := "zip") ⟨_, hz2, rfl⟩ ?_)
      have b1 : Builtin.List.listSameRef (.ref h'.objs.size) (.ref z) = false := by simp [Builtin.List.listSameRef, Ne.symm zS]
      have b2 : (Value.type "zip" == Value.type "list") = false := by decide
      have b3 : (Value.type "zip" == Value.type "tuple") = false := by decide
      simp only [b1, b2, b3, Bool.or_false, Bool.false_eq_true, if_false]
      refine wpAny_bind (wpAny_pyIter_zip hz2 ?_)
      refine wpAny_bind (wpAny_holding ?_)
      unfold Builtin.List.listLengthHint
      refine wpAny_bind (wpAny_specialOf (T := "zip") ⟨_, hz2, rfl⟩ zip_no_len ?_)
      show wpAny _ X.A.in1.in1 (specialOf (Value.ref z) (Str.ofString "__length_hint__") >>= _) _ _ _
      refine wpAny_bind (wpAny_specialOf (T := "zip") ⟨_, hz2, rfl⟩ zip_no_hint ?_)
      refine wpAny_pure ?_
      show wpAny _ X.A.in1.in1 (rule "list.extend.makes-room" >>= fun _ => Builtin.List.listTouch (.ref h'.objs.size) >>= fun _ =>
        again (.builtin "list.extend.loop" ⟨[.ref h'.objs.size, .ref z, .none], []⟩)) _ _ _
      refine wpAny_bind (wpAny_rule ?_)
      refine wpAny_bind ?_
      show wpAny _ X.A.in1.in1 (updateSeq h'.objs.size (·.push .none) >>= fun _ => updateSeq h'.objs.size (·.pop)) _ _ _
      refine wpAny_bind (wpAny_updateSeq hS2 rfl ?_)
      have I5 := I4.lset (l := h'.objs.size) (xs := []) (ys := [.non]) (its := []) (its' := [.none]) (f := (·.push .none)) (t' := s1.toks) upd_same hS2 rfl (.cons rfl .nil) (by decide)
      have hS3 := Heap.get?_update_self (Obj.mapSeq (·.push Value.none)) hS2 rfl
      refine wpAny_updateSeq (hz := by seq_fits) hS3 rfl ?_
      have I6 := I5.lset (l := h'.objs.size) (xs := [.non]) (ys := []) (its := [.none]) (its' := []) (f := (·.pop)) (t' := s1.toks) upd_same hS3 rfl .nil (Nat.zero_le _)
      have u4 := up _ (Obj.mapSeq (·.pop)) (up _ (Obj.mapSeq (·.push Value.none)) u2)
      refine wpAny_pure ⟨plainId_quiet PySem.F.plain_extend_loop _, ?_⟩
      have eH : Ex H1 (upd (upd (upd (upd H1 h'.objs.size (.lst [])) h'.objs.size (.lst [])) h'.objs.size (.lst [.non])) h'.objs.size (.lst [])) :=
        Same.mut (Same.mut (Same.mut (Same.new (Same.refl H1) hSn) hSn) hSn) hSn
      refine zl_loop (X := X) (pins := pins) (σ := σ) (A := X.A.in1) (H1 := H1) hx hy ap hSn sn (I.ok.hd hc) lx ly .none (fun H' s' acc I' e' hS' hP => ⟨rfl, .ref _, H', I', rfl, q _ H' acc e' hSn hS' hP⟩)
        _ 0 _ _ [] none rfl (Nat.zero_le _) I6 eH upd_same .nil (fun T h => by cases h) (zst.keep fun b hb o q => u4 b o (fun z => ?_) q) (fun c hcm => ?_)
      · rcases hb with hb | hb
        · exact sn (z ▸ hb)
        · cases hb
      · have n : c ≠ h'.objs.size := Nat.ne_of_lt (lt c hcm)
        refine ⟨?_, (fresh5 c hcm).2⟩
        rw [upd_ne n, upd_ne n, upd_ne n, upd_ne n]
        exact (fresh5 c hcm).1
end
end Zl

/-! a rule of our own: xs[a:c] = ys -/
namespace Dk
open PySem PySem.Spec PyProof.Rows L2 PySem.SeqAt PySem.W
def gSli (to : TE) (tl th : TO) : TG := fun v σ H Q => to σ H fun o H1 => tl σ H1 fun lo H2 => th σ H2 fun hi H3 => ∃ (l b : Addr) (xs ys : List V) (a c : Int), o = .ref l ∧ v = .ref b ∧ lo = some a ∧ hi = some c ∧
  H3 l = some (.lst xs) ∧ H3 b = some (.lst ys) ∧ l ≠ b ∧ 0 ≤ a ∧ a ≤ c ∧ c ≤ xs.length ∧ xs.length + ys.length ≤ sizeLine ∧ Q σ (upd H3 l (.lst (xs.take a.toNat ++ ys ++ xs.drop c.toNat)))
theorem pg_sli {X : Cx} {o : Expr} {lo hi : Option Expr} {to : TE} {tl th : TO} {pos p2 : Pos} (ho : PE X o to) (hl : PO X lo tl) (hu : PO X hi th)
    (ha : ∀ v, assign (.Subscript o (.Slice lo hi none p2) pos) X.env v = (do
      let ov ← holding [v] (eval o X.env)
      let iv ← holding [v, ov] (eval (.Slice lo hi none p2) X.env)
      standAt pos
      holding [v, ov, iv] (setItem ov iv v)
      release [iv, v, ov] []) := by intro _; rfl) : PG X (.Subscript o (.Slice lo hi none p2) pos) (gSli to tl th) := by
  refine ⟨fun pins s σ H v u Q I r h => ?_⟩
  rw [ha]
  refine wpAny_bind (wpAny_holding (thn (ho.run pins s σ H _ I h) fun ov s1 ⟨x, H1, I1, r1, q1⟩ => ?_))
  refine wpAny_bind (wpAny_holding (wpAny_Slice (thn (hl.run pins s1 σ H1 _ I1 q1) fun vl s2 ⟨l, H2, I2, pl, q2⟩ => thn (hu.run pins s2 σ H2 _ I2 q2) fun vu s3 ⟨w, H3, I3, pu, q3⟩ => ?_)))
  rw [evalPart_none]
  refine wpAny_pure ?_
  have I4 : Inv X pins σ H3 { s3 with heap := s3.heap.push { cls := .type "slice", data := .fields #[vl, vu, .none] } } := I3.kept (t' := s3.toks) fun b ob q => Heap.get?_push_of_some _ q
  obtain ⟨la, lb, xs, ys, a, c, rfl, rfl, rfl, rfl, h1, h2, h3, h4, h5, h6, h7, q⟩ := q3
  cases r1
  cases r
  have ra : RelV (.int a) vl := by
    cases pl with
    | int _ t => exact ⟨t, rfl⟩
  have rc : RelV (.int c) vu := by
    cases pu with
    | int _ t => exact ⟨t, rfl⟩
  refine wpAny_bind (wpAny_standAt (wpAny_bind (wpAny_holding ?_)))
  refine set_slice (s := { s3 with heap := s3.heap.push { cls := .type "slice", data := .fields #[vl, vu, .none] } }) (sl := s3.heap.objs.size) I4 h1 h2 h3 (Heap.IsSliceOf.new ..) ra rc h4 h5 h6 h7 fun s' I' => ?_
  exact wpAny_release ⟨σ, _, I', q⟩
theorem r_gsli {v : V} {σ : L2.St} {H : Hp} {Q : L2.St → Hp → Prop} {to : TE} {tl th : TO} (h : to σ H fun o H1 => tl σ H1 fun lo H2 => th σ H2 fun hi H3 => ∃ (l b : Addr) (xs ys : List V) (a c : Int), o = .ref l ∧ v = .ref b ∧ lo = some a ∧ hi = some c ∧
  H3 l = some (.lst xs) ∧ H3 b = some (.lst ys) ∧ l ≠ b ∧ 0 ≤ a ∧ a ≤ c ∧ c ≤ xs.length ∧ xs.length + ys.length ≤ sizeLine ∧ Q σ (upd H3 l (.lst (xs.take a.toNat ++ ys ++ xs.drop c.toNat)))) : gSli to tl th v σ H Q := h
end Dk

/-! isinstance of a caught error that has fields -/
namespace Dk
open PySem PySem.Spec PyProof.Rows L2
def rIsED (K : PySem.W.Frag) (D a : Addr) (cls : Value) (d : Option Addr) : List V → Hp → VK → Prop := fun xs H Q => cls = .ref D ∧ ∃ (dd : Addr) (fs : List (Str × V)) (c : V) (cv : Value) (b : Bool), d = some dd ∧ H dd = some (.xd fs) ∧ xs = [.ref a, c] ∧ (∀ u, RelV c u → u = cv) ∧ PySem.W.kitOne K (.ref D) cv = some b ∧ Q (.bl b) H
theorem call_isED {X : Cx} {a D : Addr} {oe : Obj} {cls : Value} {d : Option Addr} {pn : List (Addr × Obj)} (C : ExcC X.K D) (hz : Zc cls d oe) (hf : ∃ vs, oe.data = .fields vs) : CallR (X.suite a ((a, oe) :: pn)) (.builtin "isinstance") (rIsED X.K D a cls d) := by
  intro pins s σ H xs us Q I r h
  obtain ⟨ec, dd, fs, c, cv, b, ed, ea, rfl, hcv, e, q⟩ := h
  subst ec ed
  cases r with
  | cons rx rr =>
    cases rr with
    | cons rt rr =>
      cases rr
      cases rx
      have ec := hcv _ rt
      subst ec
      obtain ⟨hget, _⟩ := I.pin (a, oe) (List.mem_append_left _ List.mem_cons_self)
      obtain ⟨vs, hd⟩ := hf
      have hx : ObjOk X.prog X.w H s.heap dd (.xd fs) := I.hok dd _ ea
      obtain ⟨mA, hns, hr⟩ := hx
      obtain ⟨od, ho, hl⟩ := lookIn_ns hns
      have J : PySem.W.InstAt s.heap a oe D (some od) := ⟨hget, hz.1, by unfold PySem.W.notCls; rw [hd] <;> rfl, by rw [hz.2]; exact ho⟩
      have hcl : (PySem.W.clsIn X.K D).isSome = true := by
        obtain ⟨cdD, hcD, _⟩ := PySem.W.any_some C.hd
        rw [hcD]; rfl
      exact PySem.W.kia_one (PySem.W.kitx_exc hcl C.hg C.hk C.hs C.ha C.hn C.ht C.hm) I.kIn J e (fun z => nomatch z) fun tk => ⟨.bl b, H, I.kept (t' := tk) fun _ _ z => z, rfl, q⟩
theorem r_isED {K : PySem.W.Frag} {D a dd : Addr} {cls : Value} {d : Option Addr} {fs : List (Str × V)} {c : V} {cv : Value} {b : Bool} {H : Hp} {Q : VK} (h1 : cls = .ref D) (h2 : d = some dd) (h3 : H dd = some (.xd fs)) (h4 : ∀ u, RelV c u → u = cv) (h5 : PySem.W.kitOne K (.ref D) cv = some b) (q : Q (.bl b) H) : rIsED K D a cls d [.ref a, c] H Q :=
  ⟨h1, dd, fs, c, cv, b, h2, h3, rfl, h4, h5, q⟩
end Dk

/-! more rules: keywords inside a try, dicts, locks, a few methods -/
namespace Dk
open PySem PySem.Spec PyProof.Rows L2 LiI StX
section
variable {X : Cx} {CX : CXT} {k : Nat} {f : Addr} {fd : FuncData} {ps ks : List Str} {sp : Sp} {E : L2.St → XK} {x : Str} {p pos : Pos} {kws : List Keyword} {tk : TA} {g : List Value → List Value → List Value} {gV : List V → List V → List V}
def tCallKS (sp : Sp) (gV : List V → List V → List V) (E : L2.St → XK) (tk : TA) : TE := fun σ H Q => tk σ H fun zs H2 => sp (gV [] zs) H2 Q (E σ)
theorem pe_callKS (F : FnOk X.prog X.w X.K X.mg X.base CX k f fd ps sp) (hr : Room k X.A) (hg : Gl X x) (hm : X.mg x = some (.ref f)) (hk : PySem.W.keepIn X.K (.ref f) = true) (hb : KBinds X.K fd ps ks g gV) (hx : ∀ σ, PassesAt CX X σ (E σ))
    (hkw : PK X kws tk) (hall : (backToKw pos (keywordEach kws X.env)).all (·.1.isSome) = true := by rfl) (hks : (backToKw pos (keywordEach kws X.env)).filterMap (·.1) = ks := by rfl)
    (hdb : (x == ("__debug__" : Str)) = false := by decide)
    (hpl : ((backTo pos (starEach [] X.env)).any (·.1) || (backToKw pos (keywordEach kws X.env)).any (·.1.isNone)) = false := by rfl) :
    PE X (.Call (.Name x p) [] kws pos) (tCallKS sp gV E tk) := by
  refine ⟨fun pins s σ H Q I h => ?_⟩
  refine wpAny_Call_Name_kw (ld_glob I hg hm ?_ hdb)
  refine PySem.W.callWith_KW0 (h₀ := X.base) I.ok.mod.kin hk hall (thn (hkw.run pos pins s σ H _ I h) fun ws s2 ⟨zs, H2, I2, rz, q2⟩ => ⟨I2.kIn, ?_⟩) hpl
  rw [hks]
  have r2 := hb.rel (us := []) (vs := []) .nil rz
  have hl : (g [] ws).length = ps.length := by rw [← r2.length]; exact F.len _ _ _ _ q2
  refine wpAny_call (codeAny_mono (F.run X.A X.stack s2 H2 ⟨[], ks.zip ws⟩ (g [] ws) (gV [] zs) Q (E σ) hr I2.env0 (hb.to s2 [] ws I2.kIn hl) r2 q2) fun r s' hq => ?_)
  cases r with
  | error e => exact hx σ pins H2 s2 e s' I2 hq
  | ok fl =>
    cases fl with
    | ret u => exact I2.after hq
    | next => exact False.elim hq
    | brk => exact False.elim hq
    | cont => exact False.elim hq
theorem r_callKS {σ : L2.St} {H : Hp} {Q : VK} (h : tk σ H fun zs H2 => sp (gV [] zs) H2 Q (E σ)) : tCallKS sp gV E tk σ H Q := h
end
section
variable {K : PySem.W.Frag} {td ty te to : TE} {σ : L2.St} {H : Hp} {Q : VK} {v x y : V} {D : Ends}
theorem r_chain {r r' : R2} {ta tb tc : TE} (h : ta σ H fun x H1 => tb σ H1 fun y H2 => r x y H2 fun z H3 => ∃ k, z = .bl k ∧ (if k = true then tc σ H3 fun w' H4 => r' y w' H4 Q else Q (.bl false) H3)) : tChain r r' ta tb tc σ H Q := h
theorem r_dget (h : td σ H fun x H1 => ty σ H1 fun y H2 => ∃ a v, x = .ref a ∧ DGet H2 a y (some v) ∧ Q v H2) : tDGet td ty σ H Q := h
theorem r_din (h : ty σ H fun y H1 => td σ H1 fun x H2 => ∃ a o, x = .ref a ∧ DGet H2 a y o ∧ Q (.bl o.isSome) H2) : tDIn ty td σ H Q := h
theorem r_dnotin (h : ty σ H fun y H1 => td σ H1 fun x H2 => ∃ a o, x = .ref a ∧ DGet H2 a y o ∧ Q (.bl (!o.isSome)) H2) : tDNotIn ty td σ H Q := h
theorem r_lock {t : TS} (h : ∃ d u, H d = some u ∧ Mut (some u) ∧ ∀ od, t ⟨fun σ' H' => H' d = some (.frz od u) ∧ D.nx σ' (upd H' d u), fun v H' => H' d = some (.frz od u) ∧ D.rt v (upd H' d u), fun σ' H' => H' d = some (.frz od u) ∧ D.bk σ' (upd H' d u), fun σ' H' => H' d = some (.frz od u) ∧ D.ct σ' (upd H' d u)⟩ σ (upd H d (.frz od u))) : tLock t D σ H := h
theorem r_items (h : te σ H fun x H1 => rItemsL x H1 Q) : tListItems te σ H Q := h
theorem r_bits (h : to σ H fun x H1 => ∃ i, x = .int i ∧ Q (.int (Builtin.Int.intBits i : Nat)) H1) : tBits to σ H Q := h
theorem r_starC {t : TA} {QA : List V → Hp → Prop} (h : te σ H fun x H1 => ∃ p xs, x = V.ref p ∧ (SqT K H1 p xs ∨ SqL K H1 p xs) ∧ t σ H1 fun ys H2 => QA (xs ++ ys) H2) : tStar K te t σ H QA := h
theorem r_forKo {g : TG} {tb : TS} (h : td σ H fun x H1 => ∃ d o, x = .ref d ∧ ((∃ kvs, H1 d = some (.frz o (.dK kvs)) ∧ LoopW (Itk d o kvs) g tb D σ H1) ∨ ∃ kvs, H1 d = some (.frz o (.dT kvs)) ∧ LoopW (Itkt d o kvs) g tb D σ H1)) : tFor (iKeys td) g tb D σ H := h
end
/-- l.index(x, k) -/
def rIndexD3 (K : PySem.W.Frag) : V → List V → Hp → VK → Prop := fun x xs H Q => ∃ (a : Addr) (y : V) (d : PyData) (ds : List PyData) (j : Nat) (z : PyData) (k : Int), x = V.ref a ∧ xs = [y, .int k] ∧ Dp K H (V.ref a) (.list ds) ∧ Dp K H y d ∧
  SeqAt.shaped (.list ds) = true ∧ SeqAt.shaped d = true ∧ ds[j]? = some z ∧ PyData.eqv z d = true ∧ 0 ≤ k ∧ k ≤ (j : Int) ∧ (∀ (m : Nat) (z' : PyData), k ≤ (m : Int) → m < j → ds[m]? = some z' → PyData.eqv z' d = false) ∧ Q (.int (j : Nat)) H
theorem mt_indexD3 {X : Cx} (hu : X.A.units + 65 < cLine) : MtR X "list.index" (rIndexD3 X.K) := by
  intro pins s σ H x xs v us Q I rx rxs h
  obtain ⟨a, y, d, ds, j, z, k, rfl, rfl, hl, hy, sl, sd, hz, hzj, k0, kj, hno, q⟩ := h
  cases rx
  cases rxs with
  | cons ry rt =>
    rename_i uy ut
    cases rt with
    | cons rk rt =>
    rename_i uk ut
    cases rt
    obtain ⟨tk, rfl⟩ := rk
    obtain ⟨bs, r1⟩ := Dp.reads I d y uy hy ry
    have hxs : PyData.canLayAll0 ds = true := SeqAt.canLay_of_shaped sl
    have hroom : X.A.units + 1 + min (PyData.depthAll ds) d.depth < cLine := room_in_shaped sd hu
    cases hl with
    | lst hs ha =>
      obtain ⟨its, rv, ⟨⟨cls, dd, data, sls⟩, n, ho, hc, hdn, hdt⟩, hlen⟩ := I.list hs
      simp only at hc hdt
      subst hc hdt
      obtain ⟨as, h4⟩ := Dp.readsAll I ds _ its ha rv
      have hn : its.length = ds.length := SeqAt.ReadsAll.length ds its as h4
      have hmap : its.map (SeqAt.readOf s.heap) = ds := SeqAt.readsAll_map ds its as hxs h4
      have hvl := rv.length
      have hsl := sizeLine_eq
      obtain ⟨hjd, _⟩ := List.getElem?_eq_some_iff.mp hz
      have hjl : j < its.length := by omega
      have hj : j < its.toArray.size := by simpa using hjl
      have at_ : ∀ (m : Nat) (hm : m < its.toArray.size) (z' : PyData), ds[m]? = some z' → SeqAt.readOf s.heap its.toArray[m] = z' := by
        intro m hm z' hz'
        have hml : m < its.length := by simpa using hm
        rw [← hmap, List.getElem?_map, List.getElem?_eq_getElem hml] at hz'
        have e1 : SeqAt.readOf s.heap its[m] = z' := Option.some.inj (show some (SeqAt.readOf s.heap its[m]) = some z' from hz')
        simpa using e1
      have sf : SeqAt.searchFrom k its.toArray.size = k.toNat := SeqAt.searchFrom_nonneg k0 _
      have eqs := SeqAt.items_eqAt (A := X.A) (vs := its.toArray) (show ReadsAll s.heap its.toArray.toList ds as from h4) r1 hxs (SeqAt.canLay_of_shaped sd) hroom
      refine call_meets PySem.F.slot_list_index ⟨_, ho, rfl⟩ PySem.F.entry_list_index (PySem.F.args_list_index_3 _ _ _)
        (SeqAt.list_index3_found a its.toArray n dd sls uy (fun m => PyData.eqv (SeqAt.readOf s.heap (its.toArray[m]?.getD .none)) d) k tk j hj (by rw [sf]; omega) (by omega) ?_ ?_) ⟨ho, fun m hm => ?_, ?_⟩
      · show PyData.eqv (SeqAt.readOf s.heap (its.toArray[j]?.getD .none)) d = true
        rw [Array.getElem?_eq_getElem hj, Option.getD_some, at_ j hj z hz]
        exact hzj
      · intro m hm hkm hmj
        have hmd : m < ds.length := by omega
        have hz' : ds[m]? = some ds[m] := List.getElem?_eq_getElem hmd
        show PyData.eqv (SeqAt.readOf s.heap (its.toArray[m]?.getD .none)) d = false
        rw [Array.getElem?_eq_getElem hm, Option.getD_some, at_ m hm _ hz']
        exact hno m _ (by rw [sf] at hkm; omega) hmj hz'
      · show SeqAt.EqAt _ _ _ _ (PyData.eqv (SeqAt.readOf s.heap (its.toArray[m]?.getD .none)) d)
        rw [Array.getElem?_eq_getElem hm, Option.getD_some]
        exact eqs _ (Array.getElem_mem hm)
      · exact ⟨.int (j : Nat), H, I.tok _, ⟨_, rfl⟩, q⟩
theorem r_indexSg3 {K : PySem.W.Frag} {H : Hp} {Q : VK} {a : Addr} {xs : List V} {v : V} {m : List Tl.Sg} {x : Tl.Sg} {j : Nat} {k : Int} (hl : SqL K H a xs) (hm : SgL K H xs m) (hv : SgV K H v x) (hj : m[j]? = some x) (k0 : 0 ≤ k) (kj : k ≤ (j : Int)) (hno : ∀ i, i < j → m[i]? ≠ some x) (q : Q (.int (j : Nat)) H) :
    rIndexD3 K (.ref a) [v, .int k] H Q := by
  refine ⟨a, v, sgD x, m.map sgD, j, sgD x, k, rfl, rfl, .lst hl hm.dps, hv.dp, sgs_shaped m, sg_shaped x, by rw [List.getElem?_map, hj]; rfl, by rw [sg_eqv]; simp, k0, kj, fun i z _ hi hz => ?_, q⟩
  rw [List.getElem?_map] at hz
  obtain ⟨y, hy, rfl⟩ := Option.map_eq_some_iff.mp hz
  rw [sg_eqv]
  refine decide_eq_false fun e => hno i hi ?_
  rw [hy, e]
def p0 {α : Type} : List α → List α → List α
  | [], [a] => [a]
  | _, _ => []
theorem p0_rel {vs zs : List V} {us ws : List Value} (r : Vals vs us) (q : Vals zs ws) : Vals (p0 vs zs) (p0 us ws) := by
  cases r with
  | cons => exact .nil
  | nil => rcases q with _ | ⟨a, _ | _⟩
           · exact .nil
           · exact .cons a .nil
           · exact .nil
def p2310 {α : Type} : List α → List α → List α
  | [], [a, b, c, d] => [c, d, b, a]
  | _, _ => []
theorem p2310_rel {vs zs : List V} {us ws : List Value} (r : Vals vs us) (q : Vals zs ws) : Vals (p2310 vs zs) (p2310 us ws) := by
  cases r with
  | cons => exact .nil
  | nil => rcases q with _ | ⟨a, _ | ⟨b, _ | ⟨c, _ | ⟨d, _ | _⟩⟩⟩⟩
           · exact .nil
           · exact .nil
           · exact .nil
           · exact .nil
           · exact .cons c (.cons d (.cons b (.cons a .nil)))
           · exact .nil
theorem r_m1 {r : V → List V → Hp → VK → Prop} {σ : L2.St} {H : Hp} {Q : VK} {to te : TE} (h : to σ H fun x H1 => (∃ a, x = .str a) ∧ te σ H1 fun y H2 => r x [y] H2 Q) : tM1 r to te σ H Q := h
theorem r_lcTo {K : PySem.W.Frag} {tl : TE} {g : TG} {tt : TT} {te : TE} {vs : List Nat} {σ : L2.St} {H : Hp} {Q : VK} (h : tl σ H fun x H1 => ∃ a, x = .ref a ∧ (∃ xs, SqT K H1 a xs) ∧ ∀ D, H1 D = none → ∃ W : Nat → Nat → Hp → Prop, (∃ m, W 0 m (upd H1 D (.lst []))) ∧ ∀ i m H, W i m H →
  ((Itt K a).stop i H ∧ Q (.ref D) H) ∨ ((Itt K a).go i H ∧ ∃ Nx : Hp → Prop, (∀ H', Nx H' → ∃ m', m' < m ∧ W (i + 1) m' H') ∧ ∀ x H', (Itt K a).yld i H x H' → g x (wipe σ vs) H' fun σ2 H2 => wipe σ2 vs = wipe σ vs ∧ tt σ2 H2 fun b H3 =>
    if b = true then te σ2 H3 fun y H4 => ∃ acc, H4 D = some (.lst acc) ∧ acc.length < sizeLine ∧ Nx (upd H4 D (.lst (acc ++ [y]))) else Nx H3)) : tLc (iTup K tl) g tt te vs σ H Q := h
theorem l_lcT {K : PySem.W.Frag} {a : Addr} {xs : List V} {g : TG} {tt : TT} {te : TE} {vs : List Nat} {σ : L2.St} {H1 : Hp} {Qd : Addr → Hp → Prop} (hs0 : SqT K H1 a xs) (Pv : Addr → Nat → Hp → Prop) (h0 : ∀ D, H1 D = none → Pv D 0 (upd H1 D (.lst []))) (hl : ∀ D i H, Pv D i H → SqT K H a xs)
    (hs : ∀ D (i : Nat) x H, H1 D = none → xs[i]? = some x → Pv D i H → g x (wipe σ vs) H fun σ2 H2 => wipe σ2 vs = wipe σ vs ∧ tt σ2 H2 fun b H3 =>
      if b = true then te σ2 H3 fun y H4 => ∃ acc, H4 D = some (.lst acc) ∧ acc.length < sizeLine ∧ Pv D (i + 1) (upd H4 D (.lst (acc ++ [y]))) else Pv D (i + 1) H3) (hd : ∀ D H, H1 D = none → Pv D xs.length H → Qd D H) :
    ∃ b, V.ref a = .ref b ∧ (∃ xs, SqT K H1 b xs) ∧ ∀ D, H1 D = none → ∃ W : Nat → Nat → Hp → Prop, (∃ m, W 0 m (upd H1 D (.lst []))) ∧ ∀ i m H, W i m H →
  ((Itt K b).stop i H ∧ Qd D H) ∨ ((Itt K b).go i H ∧ ∃ Nx : Hp → Prop, (∀ H', Nx H' → ∃ m', m' < m ∧ W (i + 1) m' H') ∧ ∀ x H', (Itt K b).yld i H x H' → g x (wipe σ vs) H' fun σ2 H2 => wipe σ2 vs = wipe σ vs ∧ tt σ2 H2 fun b H3 =>
    if b = true then te σ2 H3 fun y H4 => ∃ acc, H4 D = some (.lst acc) ∧ acc.length < sizeLine ∧ Nx (upd H4 D (.lst (acc ++ [y]))) else Nx H3) :=
  ⟨a, rfl, ⟨xs, hs0⟩, fun D hD => lc_tup (Pv D) (h0 D hD) (fun i H _ p => hl D i H p) (fun i x H hx p => hs D i x H hD hx p) fun H p => hd D H hD p⟩
/-- over the keys of a locked dict -/
theorem l_K {d : Addr} {o : Obj} {kvs : List (Key × V)} {g : TG} {tb : TS} {D : Ends} {σ : L2.St} {H : Hp} (hd : H d = some (.frz o (.dK kvs))) (Pv : Nat → L2.St → Hp → Prop) (p0 : Pv 0 σ H) (hl : ∀ i σ H, Pv i σ H → H d = some (.frz o (.dK kvs)))
    (ht : ∀ i k v σ H, kvs[i]? = some (k, v) → Pv i σ H → g (kV k) σ H fun σ2 H2 => tb { D with nx := Pv (i + 1), ct := Pv (i + 1), bk := D.nx } σ2 H2)
    (hn : ∀ σ H, Pv kvs.length σ H → D.nx σ H) :
    ∃ d' o', V.ref d = .ref d' ∧ ((∃ kvs, H d' = some (.frz o' (.dK kvs)) ∧ LoopW (Itk d' o' kvs) g tb D σ H) ∨ ∃ kvs, H d' = some (.frz o' (.dT kvs)) ∧ LoopW (Itkt d' o' kvs) g tb D σ H) := by
  refine ⟨d, o, rfl, .inl ⟨kvs, hd, for_it walk_keys Pv p0 (fun i σ H _ p => hl i σ H p) (fun i v σ H H' hi p y => ?_) hn⟩⟩
  obtain ⟨rfl, k, w, hk, rfl⟩ := y
  exact ht i k w σ _ hk p
theorem r_lcZo {K : PySem.W.Frag} {ta : TA} {g : TG} {tt : TT} {te : TE} {vs : List Nat} {σ : L2.St} {H : Hp} {Q : VK} (h : ta σ H fun us H1 => ∃ k1 k2 : Zp.Kd, us = [k1.v, k2.v] ∧ (∃ xs, k1.has K H1 xs) ∧ (∃ ys, k2.has K H1 ys) ∧ ∀ D, H1 D = none → ∃ W : Nat → Nat → Hp → Prop, (∃ m, W 0 m (upd H1 D (.lst []))) ∧ ∀ i m H, W i m H →
  ((Zp.ItzK K k1 k2).stop i H ∧ Q (.ref D) H) ∨ ((Zp.ItzK K k1 k2).go i H ∧ ∃ Nx : Hp → Prop, (∀ H', Nx H' → ∃ m', m' < m ∧ W (i + 1) m' H') ∧ ∀ x H', (Zp.ItzK K k1 k2).yld i H x H' → g x (wipe σ vs) H' fun σ2 H2 => wipe σ2 vs = wipe σ vs ∧ tt σ2 H2 fun b H3 =>
    if b = true then te σ2 H3 fun y H4 => ∃ acc, H4 D = some (.lst acc) ∧ acc.length < sizeLine ∧ Nx (upd H4 D (.lst (acc ++ [y]))) else Nx H3)) : tLc (Zp.iZipK K ta) g tt te vs σ H Q := h
theorem l_lcZ {K : PySem.W.Frag} (k1 k2 : Zp.Kd) {xs ys : List V} {g : TG} {tt : TT} {te : TE} {vs : List Nat} {σ : L2.St} {H1 : Hp} {Qd : Addr → Hp → Prop} (hx : k1.has K H1 xs) (hy : k2.has K H1 ys) (Pv : Addr → Nat → Hp → Prop) (h0 : ∀ D, H1 D = none → Pv D 0 (upd H1 D (.lst [])))
    (hl : ∀ D i H, Pv D i H → k1.has K H xs ∧ k2.has K H ys)
    (hs : ∀ D (i : Nat) x y H p, H1 D = none → xs[i]? = some x → ys[i]? = some y → Pv D i H → H p = none → g (.ref p) (wipe σ vs) (upd H p (.tup [x, y])) fun σ2 H2 => wipe σ2 vs = wipe σ vs ∧ tt σ2 H2 fun b H3 =>
      if b = true then te σ2 H3 fun y H4 => ∃ acc, H4 D = some (.lst acc) ∧ acc.length < sizeLine ∧ Pv D (i + 1) (upd H4 D (.lst (acc ++ [y]))) else Pv D (i + 1) H3) (hd : ∀ D H, H1 D = none → Pv D (min xs.length ys.length) H → Qd D H) :
    ∃ k1' k2' : Zp.Kd, [k1.v, k2.v] = [k1'.v, k2'.v] ∧ (∃ xs, k1'.has K H1 xs) ∧ (∃ ys, k2'.has K H1 ys) ∧ ∀ D, H1 D = none → ∃ W : Nat → Nat → Hp → Prop, (∃ m, W 0 m (upd H1 D (.lst []))) ∧ ∀ i m H, W i m H →
  ((Zp.ItzK K k1' k2').stop i H ∧ Qd D H) ∨ ((Zp.ItzK K k1' k2').go i H ∧ ∃ Nx : Hp → Prop, (∀ H', Nx H' → ∃ m', m' < m ∧ W (i + 1) m' H') ∧ ∀ x H', (Zp.ItzK K k1' k2').yld i H x H' → g x (wipe σ vs) H' fun σ2 H2 => wipe σ2 vs = wipe σ vs ∧ tt σ2 H2 fun b H3 =>
    if b = true then te σ2 H3 fun y H4 => ∃ acc, H4 D = some (.lst acc) ∧ acc.length < sizeLine ∧ Nx (upd H4 D (.lst (acc ++ [y]))) else Nx H3) :=
  ⟨k1, k2, rfl, ⟨_, hx⟩, ⟨_, hy⟩, fun D hD => lc_it (Zp.walk_zipK rfl) (Pv D) (h0 D hD) (fun i H _ p => hl D i H p) (fun i v H H' hi p y => by
    obtain ⟨T, a, b, rfl, hT, rfl, ha, hb⟩ := y
    exact hs D i a b H T hD ha hb p hT) fun H p => hd D H hD p⟩
/-- over zip(tuple, tuple) -/
theorem l_ZK {K : PySem.W.Frag} (k1 k2 : Zp.Kd) {xs ys : List V} {g : TG} {tb : TS} {D : Ends} {σ : L2.St} {H : Hp} (hx : k1.has K H xs) (hy : k2.has K H ys) (Pv : Nat → L2.St → Hp → Prop) (p0 : Pv 0 σ H) (hl : ∀ i σ H, Pv i σ H → k1.has K H xs ∧ k2.has K H ys)
    (ht : ∀ i x y σ H p, xs[i]? = some x → ys[i]? = some y → Pv i σ H → H p = none → g (.ref p) σ (upd H p (.tup [x, y])) fun σ2 H2 => tb { D with nx := Pv (i + 1), ct := Pv (i + 1), bk := D.nx } σ2 H2)
    (hd : ∀ σ H, Pv (min xs.length ys.length) σ H → D.nx σ H) :
    ∃ k1' k2' : Zp.Kd, [k1.v, k2.v] = [k1'.v, k2'.v] ∧ (∃ xs, k1'.has K H xs) ∧ (∃ ys, k2'.has K H ys) ∧ LoopW (Zp.ItzK K k1' k2') g tb D σ H := by
  refine ⟨k1, k2, rfl, ⟨_, hx⟩, ⟨_, hy⟩, for_it (Zp.walk_zipK (xs := xs) (ys := ys) rfl) Pv p0 (fun i σ H _ p => hl i σ H p) (fun i v σ H H' hi p yy => ?_) hd⟩
  obtain ⟨T, a, b, rfl, hT, rfl, ha, hb⟩ := yy
  exact ht i a b σ H T ha hb p hT
/-! ### a class of two fields -/
section
variable {K : PySem.W.Frag} {σ : L2.St} {H : Hp} {C : Addr} {f g : Str} {v u : V} {W : XK}
def spInit2 (C : Addr) (f g : Str) : Sp := fun vs H Q _ => ∃ (a : Addr) (v u : V), vs = [.ref a, v, u] ∧ H a = some (exo a C none) ∧
  ∀ dx, H dx = none → dx ≠ a → Q .non (upd (upd (upd H dx (exd dx [(f, v)])) a (exo a C (some dx))) dx (exd dx [(g, u), (f, v)]))
theorem r_raise2 (q : ∀ d, H d = none → W (.ref C) (some d) (upd H d (.xd [(g, u), (f, v)]))) :
    ([v, u] : List V).length ≤ 1000 ∧ ∀ a, H a = none → spInit2 C f g (.ref a :: ([v, u] ++ [])) (upd H a (exo a C none))
      (fun w H2 => w = .non ∧ ∃ (d : Addr) (fs : List (Str × V)), H2 a = some (exo a C (some d)) ∧ H2 d = some (exd d fs) ∧ H d = none ∧ W (.ref C) (some d) (upd (del H2 a) d (.xd fs))) (fun _ _ _ => False) := by
  refine ⟨by show 2 ≤ 1000; decide, fun a ha => ⟨a, v, u, rfl, upd_same, fun dx hdx hne => ⟨rfl, dx, [(g, u), (f, v)], ?_, upd_same, ?_, ?_⟩⟩⟩
  · rw [upd_ne hne.symm]
    exact upd_same
  · rw [upd_ne hne] at hdx
    exact hdx
  · rw [upd_ne hne] at hdx
    have e : upd (del (upd (upd (upd (upd H a (exo a C none)) dx (exd dx [(f, v)])) a (exo a C (some dx))) dx (exd dx [(g, u), (f, v)])) a) dx (.xd [(g, u), (f, v)]) = upd H dx (.xd [(g, u), (f, v)]) := by
      funext b
      by_cases h1 : b = dx
      · rw [h1, upd_same, upd_same]
      · rw [upd_ne h1, upd_ne h1]
        by_cases h2 : b = a
        · rw [h2, del_same, ha]
        · rw [del_ne h2, upd_ne h1, upd_ne h2, upd_ne h1, upd_ne h2]
    rw [e]
    exact q dx hdx
end
/-- for k in range(a, a + n) -/
theorem l_R2 {a n : Nat} {b : Int} {g : TG} {tb : TS} {σ : L2.St} {H : Hp} {D : Ends} (hb : b = ((a + n : Nat) : Int)) (h2 : a + n ≤ 1000000) (Pv : Nat → L2.St → Hp → Prop) (p0 : Pv 0 σ H)
    (ht : ∀ (i : Nat) σ H, i < n → Pv i σ H → g (.int ((a + i : Nat) : Int)) σ H fun σ2 H2 => tb { D with nx := Pv (i + 1), ct := Pv (i + 1), bk := D.nx } σ2 H2) (hd : ∀ σ H, Pv n σ H → D.nx σ H) :
    ∃ i j : Int, [V.int (a : Nat), V.int b] = [.int i, .int j] ∧ (-(2 ^ 62) ≤ i ∧ i < 2 ^ 62 ∧ -(2 ^ 62) ≤ j ∧ j < 2 ^ 62) ∧ LoopW (Itr i (j - i).toNat) g tb D σ H := by
  subst hb
  refine ⟨a, ((a + n : Nat) : Int), rfl, ⟨by omega, by omega, by omega, by omega⟩, for_range Pv p0 (fun i σ H hi p => ?_) fun σ H p => hd σ H ?_⟩
  · have z := ht i σ H (by omega) p
    rw [show ((a : Nat) : Int) + (i : Nat) = ((a + i : Nat) : Int) by omega]
    exact z
  · have e : (((a + n : Nat) : Int) - ((a : Nat) : Int)).toNat = n := by omega
    rw [e] at p
    exact p
/-! ### over a list or a tuple -/
def iEith (K : PySem.W.Frag) (tl : TE) : TI := fun σ H R => tl σ H fun x H1 => ∃ a, x = .ref a ∧ (((∃ xs, SqL K H1 a xs) ∧ R (Itl K a) H1) ∨ ((∃ xs, SqT K H1 a xs) ∧ R (Itt K a) H1))
theorem pi_eith {X : Cx} {tg l : Expr} {tl : TE} (hl : PE X l tl) : PI X tg l (iEith X.K tl) := by
  refine ⟨fun pins s σ H R I h => ?_⟩
  refine thn (hl.run pins s σ H _ I h) fun v s1 ⟨x, H1, I1, r1, q1⟩ => ?_
  obtain ⟨a, e, q1⟩ := q1
  subst e
  cases r1
  rcases q1 with ⟨⟨xs, hq⟩, q⟩ | ⟨⟨xs, hq⟩, q⟩
  · obtain ⟨its, rv, p, hz⟩ := I1.list hq
    refine wpAny_pyIter_list p.isList ?_
    refine ⟨s1.heap.objs.size, [s1.heap.objs.size], _, _, H1, rfl, I1.kept (t' := s1.toks) fun b o e => Heap.get?_push_of_some _ e, turn_list a _, ⟨_, Heap.get?_push_size _ rfl, rfl, rfl⟩, fun b hb => ?_, q⟩
    have e : b = s1.heap.objs.size := by simpa using hb
    subst e
    exact I1.fpOk (Nat.le_refl _) (I1.hok.fresh (Nat.le_refl _))
  · obtain ⟨its, rv, p, hz⟩ := I1.tuple hq
    refine wpAny_pyIter_tuple (show s1.heap.IsTuple a its.toArray from p) ?_
    refine ⟨s1.heap.objs.size, [s1.heap.objs.size], _, _, H1, rfl, I1.kept (t' := s1.toks) fun b o e => Heap.get?_push_of_some _ e, turn_tuple a _, ⟨_, Heap.get?_push_size _ rfl, rfl, rfl⟩, fun b hb => ?_, q⟩
    have e : b = s1.heap.objs.size := by simpa using hb
    subst e
    exact I1.fpOk (Nat.le_refl _) (I1.hok.fresh (Nat.le_refl _))
section
variable {K : PySem.W.Frag} {tl : TE} {g : TG} {tb : TS} {D : Ends} {σ : L2.St} {H : Hp}
theorem r_forEi (h : tl σ H fun x H1 => ∃ a, x = .ref a ∧ (((∃ xs, SqL K H1 a xs) ∧ LoopW (Itl K a) g tb D σ H1) ∨ ((∃ xs, SqT K H1 a xs) ∧ LoopW (Itt K a) g tb D σ H1))) : tFor (iEith K tl) g tb D σ H := h
theorem l_EL {a : Addr} {xs : List V} (hs : SqL K H a xs) (Pv : Nat → L2.St → Hp → Prop) (p0 : Pv 0 σ H) (hl : ∀ i σ H, Pv i σ H → SqL K H a xs)
    (ht : ∀ i x σ H, xs[i]? = some x → Pv i σ H → g x σ H fun σ2 H2 => tb { D with nx := Pv (i + 1), ct := Pv (i + 1), bk := D.nx } σ2 H2) (hd : ∀ σ H, Pv xs.length σ H → D.nx σ H) :
    ∃ b, V.ref a = .ref b ∧ (((∃ xs, SqL K H b xs) ∧ LoopW (Itl K b) g tb D σ H) ∨ ((∃ xs, SqT K H b xs) ∧ LoopW (Itt K b) g tb D σ H)) := by
  obtain ⟨b, e, h1, h2⟩ := l_L hs Pv p0 hl ht hd
  exact ⟨b, e, .inl ⟨h1, h2⟩⟩
theorem l_ET {a : Addr} {xs : List V} (hs : SqT K H a xs) (Pv : Nat → L2.St → Hp → Prop) (p0 : Pv 0 σ H) (hl : ∀ i σ H, Pv i σ H → SqT K H a xs)
    (ht : ∀ i x σ H, xs[i]? = some x → Pv i σ H → g x σ H fun σ2 H2 => tb { D with nx := Pv (i + 1), ct := Pv (i + 1), bk := D.nx } σ2 H2) (hd : ∀ σ H, Pv xs.length σ H → D.nx σ H) :
    ∃ b, V.ref a = .ref b ∧ (((∃ xs, SqL K H b xs) ∧ LoopW (Itl K b) g tb D σ H) ∨ ((∃ xs, SqT K H b xs) ∧ LoopW (Itt K b) g tb D σ H)) := by
  obtain ⟨b, e, h1, h2⟩ := l_T hs Pv p0 hl ht hd
  exact ⟨b, e, .inr ⟨h1, h2⟩⟩
theorem r_inSg {Q : VK} {v : V} {p : Addr} {xs : List V} {x : Tl.Sg} {m : List Tl.Sg} (h1 : SgV K H v x) (hp : SqL K H p xs) (h2 : SgL K H xs m) (q : Q (.bl (decide (x ∈ m))) H) : rInD K v (.ref p) H Q := by
  exact ⟨_, _, h1.dp, .lst hp h2.dps, sg_shaped x, sgs_shaped m, by
    have e : ((m.map sgD).any fun z => PyData.eqv z (sgD x)) = decide (x ∈ m) := by
      rw [List.any_map, Bool.eq_iff_iff, List.any_eq_true, decide_eq_true_iff]
      constructor
      · rintro ⟨y, hy, e⟩
        rw [Function.comp_apply, sg_eqv, decide_eq_true_iff] at e
        rw [← e]
        exact hy
      · intro h
        exact ⟨x, h, by rw [Function.comp_apply, sg_eqv]; exact decide_eq_true rfl⟩
    rw [e]
    exact q⟩
end
section
variable {K : PySem.W.Frag} {a : Addr} {xs : List V} {g : TG} {tt : TT} {te : TE} {vs : List Nat} {σ : L2.St} {H1 : Hp} {Qd : Addr → Hp → Prop}
/-- what a comprehension over such a thing asks -/
def LcI (J : It) (g : TG) (tt : TT) (te : TE) (vs : List Nat) (σ : L2.St) (H1 : Hp) (Qd : Addr → Hp → Prop) : Prop := ∀ D, H1 D = none → ∃ W : Nat → Nat → Hp → Prop, (∃ m, W 0 m (upd H1 D (.lst []))) ∧ ∀ i m H, W i m H →
  (J.stop i H ∧ Qd D H) ∨ (J.go i H ∧ ∃ Nx : Hp → Prop, (∀ H', Nx H' → ∃ m', m' < m ∧ W (i + 1) m' H') ∧ ∀ x H', J.yld i H x H' → g x (wipe σ vs) H' fun σ2 H2 => wipe σ2 vs = wipe σ vs ∧ tt σ2 H2 fun b H3 =>
    if b = true then te σ2 H3 fun y H4 => ∃ acc, H4 D = some (.lst acc) ∧ acc.length < sizeLine ∧ Nx (upd H4 D (.lst (acc ++ [y]))) else Nx H3)
theorem r_lcEio {tl : TE} {H : Hp} {Q : VK} (h : tl σ H fun x H1 => ∃ a, x = .ref a ∧ (((∃ xs, SqL K H1 a xs) ∧ LcI (Itl K a) g tt te vs σ H1 fun D H => Q (.ref D) H) ∨ ((∃ xs, SqT K H1 a xs) ∧ LcI (Itt K a) g tt te vs σ H1 fun D H => Q (.ref D) H))) : tLc (iEith K tl) g tt te vs σ H Q := h
theorem l_lcEL (hs0 : SqL K H1 a xs) (Pv : Addr → Nat → Hp → Prop) (h0 : ∀ D, H1 D = none → Pv D 0 (upd H1 D (.lst []))) (hl : ∀ D i H, Pv D i H → SqL K H a xs)
    (hs : ∀ D (i : Nat) x H, H1 D = none → xs[i]? = some x → Pv D i H → g x (wipe σ vs) H fun σ2 H2 => wipe σ2 vs = wipe σ vs ∧ tt σ2 H2 fun b H3 =>
      if b = true then te σ2 H3 fun y H4 => ∃ acc, H4 D = some (.lst acc) ∧ acc.length < sizeLine ∧ Pv D (i + 1) (upd H4 D (.lst (acc ++ [y]))) else Pv D (i + 1) H3) (hd : ∀ D H, H1 D = none → Pv D xs.length H → Qd D H) :
    ∃ b, V.ref a = .ref b ∧ (((∃ xs, SqL K H1 b xs) ∧ LcI (Itl K b) g tt te vs σ H1 Qd) ∨ ((∃ xs, SqT K H1 b xs) ∧ LcI (Itt K b) g tt te vs σ H1 Qd)) := by
  obtain ⟨b, e, h1, h2⟩ := l_lcL hs0 Pv h0 hl hs hd
  exact ⟨b, e, .inl ⟨h1, h2⟩⟩
theorem l_lcET (hs0 : SqT K H1 a xs) (Pv : Addr → Nat → Hp → Prop) (h0 : ∀ D, H1 D = none → Pv D 0 (upd H1 D (.lst []))) (hl : ∀ D i H, Pv D i H → SqT K H a xs)
    (hs : ∀ D (i : Nat) x H, H1 D = none → xs[i]? = some x → Pv D i H → g x (wipe σ vs) H fun σ2 H2 => wipe σ2 vs = wipe σ vs ∧ tt σ2 H2 fun b H3 =>
      if b = true then te σ2 H3 fun y H4 => ∃ acc, H4 D = some (.lst acc) ∧ acc.length < sizeLine ∧ Pv D (i + 1) (upd H4 D (.lst (acc ++ [y]))) else Pv D (i + 1) H3) (hd : ∀ D H, H1 D = none → Pv D xs.length H → Qd D H) :
    ∃ b, V.ref a = .ref b ∧ (((∃ xs, SqL K H1 b xs) ∧ LcI (Itl K b) g tt te vs σ H1 Qd) ∨ ((∃ xs, SqT K H1 b xs) ∧ LcI (Itt K b) g tt te vs σ H1 Qd)) := by
  obtain ⟨b, e, h1, h2⟩ := l_lcT hs0 Pv h0 hl hs hd
  exact ⟨b, e, .inr ⟨h1, h2⟩⟩
end
/-- any of the two bits -/
theorem two_bits (x y a b : Nat) : decide (V.int (Builtin.bitAnd (Builtin.bitOr ((x : Int) / 2 ^ ((b : Int)).toNat) ((y : Int) / 2 ^ ((a : Int)).toNat)) 1) = V.int 0) = (!x.testBit b && !y.testBit a) := by
  have hx : ((x : Int) / 2 ^ ((b : Int)).toNat) = ((x >>> b : Nat) : Int) := by
    rw [Int.toNat_natCast, Nat.shiftRight_eq_div_pow]
    push_cast
    rfl
  have hy : ((y : Int) / 2 ^ ((a : Int)).toNat) = ((y >>> a : Nat) : Int) := by
    rw [Int.toNat_natCast, Nat.shiftRight_eq_div_pow]
    push_cast
    rfl
  rw [hx, hy, Bits.bitOr_pp (Int.natCast_nonneg _) (Int.natCast_nonneg _), Int.toNat_natCast, Int.toNat_natCast]
  have h1 : Builtin.bitAnd (((x >>> b ||| y >>> a : Nat)) : Int) 1 = (((x >>> b ||| y >>> a) &&& 1 : Nat) : Int) := by
    rw [PyProof.Rows.bitAnd_pp (Int.natCast_nonneg _) (by decide), Int.toNat_natCast]
    rfl
  rw [h1, Bool.eq_iff_iff, decide_eq_true_iff, Bool.and_eq_true]
  have e : (x >>> b ||| y >>> a).testBit 0 = (x.testBit b || y.testBit a) := by
    rw [Nat.testBit_or, Nat.testBit_shiftRight, Nat.testBit_shiftRight]
    rfl
  have e2 : ((x >>> b ||| y >>> a) &&& 1) = if (x >>> b ||| y >>> a).testBit 0 then 1 else 0 := by
    rw [Nat.and_one_is_mod, Nat.testBit_zero]
    rcases Nat.mod_two_eq_zero_or_one (x >>> b ||| y >>> a) with h | h <;> simp [h]
  rw [e2, e]
  cases x.testBit b <;> cases y.testBit a <;> simp
end Dk

/-! a box of draws of any shape; further rules -/
namespace Dk
open PySem PySem.Spec PyProof.Rows L2
/-- what a law's draws change (A), and how it stands -/
structure Box where
  A : Addr → Prop
  B : Hp → Prop
  live : ∀ H, B H → ∀ x, A x → ∃ o, H x = some o
  keep : ∀ H H', B H → (∀ x o, A x → H x = some o → H' x = some o) → B H'
/-- draws were made -/
structure Drw (b : Box) (H H' : Hp) : Prop where
  hh : ∀ x o, ¬ b.A x → H x = some o → H' x = some o
  st : b.B H'
/-- G: what is known for good, H: the heap -/
structure Wb (b : Box) (G H : Hp) : Prop where
  g : Ex G H
  n : ∀ x, b.A x → G x = none
  st : b.B H
section
variable {b : Box} {G H H1 H2 H' : Hp} {p l : Addr} {o : HO}
theorem Box.fresh (b : Box) (s : b.B H) (hp : H p = none) : ¬ b.A p := fun z => by
  obtain ⟨o, e⟩ := b.live _ s _ z
  rw [hp] at e
  cases e
theorem Box.ane (b : Box) {x : Addr} (na : ¬ b.A p) (a : b.A x) : x ≠ p := fun z => na (by rw [← z]; exact a)
theorem Box.up (b : Box) (s : b.B H) (e : Ex H H') : b.B H' := b.keep _ _ s fun x o _ h => e x o h
theorem Drw.refl (s : b.B H) : Drw b H H := ⟨fun _ _ _ h => h, s⟩
theorem Drw.trans (x : Drw b H H1) (y : Drw b H1 H2) : Drw b H H2 := ⟨fun x' o n h => y.hh _ _ n (x.hh _ _ n h), y.st⟩
theorem Drw.ex (s : b.B H) (e : Ex H H') : Drw b H H' := ⟨fun x o _ h => e x o h, b.up s e⟩
theorem Drw.then (x : Drw b H H1) (e : Ex H1 H2) : Drw b H H2 := x.trans (.ex x.st e)
theorem Drw.new (x : Drw b H H1) (hp : H1 p = none) : Drw b H (upd H1 p o) := x.then (Same.new (Same.refl _) hp)
theorem Drw.put (x : Drw b H H1) (hp : H p = none) (na : ¬ b.A p) : Drw b H (upd H1 p o) :=
  ⟨fun y u n e => by rw [upd_ne (ne_of_none e hp)]; exact x.hh y u n e, b.keep _ _ x.st fun y u a e => by rw [upd_ne (b.ane na a)]; exact e⟩
theorem Drw.at (x : Drw b H H1) (na : ¬ b.A p) (e : H p = some o) : H1 p = some o := x.hh _ _ na e
theorem Wb.of (s : b.B H) (e : Ex G H) (n : ∀ x, b.A x → G x = none) : Wb b G H := ⟨e, n, s⟩
theorem Wb.ex (w : Wb b G H) (e : Ex H H') : Wb b G H' := ⟨w.g.trans e, w.n, b.up w.st e⟩
theorem Wb.dr (w : Wb b G H) (d : Drw b H H') : Wb b G H' :=
  ⟨fun x o h => d.hh x o (fun a => by rw [w.n x a] at h; cases h) (w.g x o h), w.n, d.st⟩
theorem Wb.new (w : Wb b G H) (hp : H p = none) : Wb b (upd G p o) (upd H p o) :=
  ⟨fun x u h => by
    by_cases e : x = p
    · subst e; rw [upd_same] at h ⊢; exact h
    · rw [upd_ne e] at h ⊢; exact w.g x u h, fun x a => by
    rw [upd_ne (b.ane (b.fresh w.st hp) a)]; exact w.n x a, b.keep _ _ w.st fun x u a h => by rw [upd_ne (b.ane (b.fresh w.st hp) a)]; exact h⟩
theorem Wb.put (w : Wb b G H) (gp : G p = none) (na : ¬ b.A p) : Wb b G (upd H p o) :=
  ⟨fun x u h => by
    by_cases e : x = p
    · subst e; rw [gp] at h; cases h
    · rw [upd_ne e]; exact w.g x u h, w.n, b.keep _ _ w.st fun x u a h => by rw [upd_ne (b.ane na a)]; exact h⟩
theorem Wb.free (w : Wb b G H) (hp : H p = none) : G p = none := w.g.free hp
/-- the same under more known data -/
theorem Wb.more (w : Wb b G H) (e : Ex H H') : Wb b (fun x => if (G x).isSome then G x else none) H' := by
  have q : (fun x => if (G x).isSome then G x else none) = G := by
    funext x
    cases G x <;> rfl
  rw [q]
  exact w.ex e
end
/-! ### rules -/
section
variable {K : PySem.W.Frag} {σ : L2.St} {H : Hp} {Q : VK} {D : Ends}
theorem r_callK {sp : Sp} {gV : List V → List V → List V} {E : XK} {t tk : TA} (h : t σ H fun vs H1 => tk σ H1 fun zs H2 => sp (gV vs zs) H2 Q E) : tCallK sp gV E t tk σ H Q := h
theorem r_repL {p : Addr} {v : V} {n : Nat} (hp : H p = some (.lst [v])) (hn : n ≤ 1000000) (k : ∀ l, H l = none → Q (.ref l) (upd H l (.lst (List.replicate n v)))) : rRep (.ref p) (.int (n : Nat)) H Q := by
  refine ⟨p, n, [v], rfl, rfl, hp, by omega, by omega, ?_, fun l hl => ?_⟩
  · rw [Int.toNat_natCast, List.length_singleton, sizeLine_eq]
    omega
  · have e : (List.replicate (n : Int).toNat [v]).flatten = List.replicate n v := by
      rw [Int.toNat_natCast]
      clear k hn
      induction n with
      | zero => rfl
      | succ n ih => rw [List.replicate_succ, List.flatten_cons, ih, List.replicate_succ]; rfl
    rw [e]
    exact k l hl
/-- for k in range(x, y), x and y being a and a + n -/
theorem l_R2g {a n : Nat} {x y : Int} {g : TG} {tb : TS} (hx : x = (a : Nat)) (hy : y = ((a + n : Nat) : Int)) (h2 : a + n ≤ 1000000) (Pv : Nat → L2.St → Hp → Prop) (p0 : Pv 0 σ H)
    (ht : ∀ (i : Nat) σ H, i < n → Pv i σ H → g (.int ((a + i : Nat) : Int)) σ H fun σ2 H2 => tb { D with nx := Pv (i + 1), ct := Pv (i + 1), bk := D.nx } σ2 H2) (hd : ∀ σ H, Pv n σ H → D.nx σ H) :
    ∃ i j : Int, [V.int x, V.int y] = [.int i, .int j] ∧ (-(2 ^ 62) ≤ i ∧ i < 2 ^ 62 ∧ -(2 ^ 62) ≤ j ∧ j < 2 ^ 62) ∧ LoopW (Itr i (j - i).toNat) g tb D σ H := by
  subst hx
  exact l_R2 hy h2 Pv p0 ht hd
end
theorem app_len (a b : Str) : (a ++ b).length = a.length + b.length := by
  rw [← cs_len, cs_app, List.length_append, cs_len, cs_len]
/-- x is True, x is False: x of any kind -/
def rIsB : R2 := fun x y H Q => ∃ b, y = .bl b ∧ Q (.bl (decide (x = .bl b))) H
theorem op_isB {X : Cx} : OpR X (compareOp .Is) rIsB := by
  intro pins s σ H x y v u Q I rx ry h
  obtain ⟨b, rfl, q⟩ := h
  cases (show u = Value.bool b from ry)
  cases x with
  | bl a =>
    cases (show v = Value.bool a from rx)
    by_cases e : a = b
    · subst e
      exact wpAny_is_self rfl ⟨.bl true, H, I, rfl, by simpa using q⟩
    · exact wpAny_is_other rfl (fun z => e (Value.bool.inj z)) ⟨.bl false, H, I, rfl, by simpa [e] using q⟩
  | non => cases rx; exact wpAny_is_other rfl (fun z => nomatch z) ⟨.bl false, H, I, rfl, by simpa using q⟩
  | int i => obtain ⟨t, rfl⟩ := rx; exact wpAny_is_other rfl (fun z => nomatch z) ⟨.bl false, H, I, rfl, by simpa using q⟩
  | str i => obtain ⟨t, rfl⟩ := rx; exact wpAny_is_other rfl (fun z => nomatch z) ⟨.bl false, H, I, rfl, by simpa using q⟩
  | byt i => obtain ⟨t, rfl⟩ := rx; exact wpAny_is_other rfl (fun z => nomatch z) ⟨.bl false, H, I, rfl, by simpa using q⟩
  | flt i => obtain ⟨t, rfl⟩ := rx; exact wpAny_is_other rfl (fun z => nomatch z) ⟨.bl false, H, I, rfl, by simpa using q⟩
  | ref i => cases rx; exact wpAny_is_other rfl (fun z => nomatch z) ⟨.bl false, H, I, rfl, by simpa using q⟩
  | ty i => cases rx; exact wpAny_is_other rfl (fun z => nomatch z) ⟨.bl false, H, I, rfl, by simpa using q⟩
theorem r_isB {H : Hp} {Q : VK} {x : V} {b : Bool} (q : Q (.bl (decide (x = .bl b))) H) : rIsB x (.bl b) H Q := ⟨b, rfl, q⟩
theorem r_tyS {K : PySem.W.Frag} {H : Hp} {z : Str} {P : Prop} (k : P) : tyV K "str" (.str z) H ∧ P := ⟨by unfold tyV; simp, k⟩
theorem new1 {H : Hp} {p : Addr} (hp : H p = none) (o : HO) : ∃ H', H' = upd H p o ∧ Ex H H' ∧ H' p = some o := ⟨_, rfl, Same.new (Same.refl H) hp, upd_same⟩
/-! ### the last of one sign -/
theorem subAt1 (z : Str) (c i : Nat) : Builtin.Str.subAt z ⟨#[c]⟩ i = decide ((cs z)[i]? = some c) := by
  rw [StrLaws.subAt_eq, Bool.eq_iff_iff, beq_iff_eq, decide_eq_true_iff]
  show (z.cps.toList.drop i).take 1 = [c] ↔ z.cps.toList[i]? = some c
  rw [← List.head?_drop]
  cases z.cps.toList.drop i with
  | nil => simp
  | cons a l => simp
theorem last_in {s sub : Str} {hi j : Nat} : ∀ (l : List Nat) (st : Option Nat), (forIn l st (StrLaws.lastBody s sub hi)).run = some j → st = some j ∨ j ∈ l
  | [], st, h => .inl (by simpa using h)
  | a :: l, st, h => by
    rw [List.forIn_cons] at h
    unfold StrLaws.lastBody at h
    split at h
    · rcases last_in l (some a) h with z | z
      · exact .inr (by cases z; exact List.mem_cons_self ..)
      · exact .inr (List.mem_cons_of_mem _ z)
    · rcases last_in l st h with z | z
      · exact .inl z
      · exact .inr (List.mem_cons_of_mem _ z)
theorem rfind1 (z : Str) (c a b : Nat) (hb : b ≤ z.length) : (Txt.rfindIn z ⟨#[c]⟩ a b = -1 ∧ ∀ i, a ≤ i → i < b → (cs z)[i]? ≠ some c) ∨ ∃ j : Nat, Txt.rfindIn z ⟨#[c]⟩ a b = j ∧ a ≤ j ∧ j < b ∧ (cs z)[j]? = some c ∧ ∀ i, j < i → i < b → (cs z)[i]? ≠ some c := by
  have e1 : fromIndex z.length (a : Int) = a := by
    unfold fromIndex
    rw [if_neg (by omega)]
    omega
  have e2 : toIndexW z.length (b : Int) = b := by
    unfold toIndexW
    rw [if_neg (by omega)]
    omega
  unfold Txt.rfindIn
  rw [e1, e2, StrLaws.last_eq]
  have key := StrLaws.last_run z ⟨#[c]⟩ b (List.range' a (b + 1 - a)) [] none (fun _ h => nomatch h) (fun _ h => nomatch h) (by first | exact List.pairwise_lt_range' | simpa using List.pairwise_lt_range' (s := a) (n := b + 1 - a))
  have at1 : ∀ i, StrLaws.At z ⟨#[c]⟩ b i ↔ (i < b ∧ (cs z)[i]? = some c) := fun i => by
    unfold StrLaws.At
    rw [subAt1, decide_eq_true_iff]
    show i + 1 ≤ b ∧ _ ↔ _
    exact ⟨fun h => ⟨by omega, h.2⟩, fun h => ⟨by omega, h.2⟩⟩
  have mem : ∀ i, a ≤ i → i < b → i ∈ [] ++ List.range' a (b + 1 - a) := fun i h1 h2 => by simp [List.mem_range'_1]; omega
  cases hr : (forIn (List.range' a (b + 1 - a)) none (StrLaws.lastBody z ⟨#[c]⟩ b)).run with
  | none =>
    rw [hr] at key
    exact .inl ⟨rfl, fun i h1 h2 h3 => key i (mem i h1 h2) ((at1 i).mpr ⟨h2, h3⟩)⟩
  | some j =>
    rw [hr] at key
    obtain ⟨k1, k2⟩ := key
    obtain ⟨h1, h2⟩ := (at1 j).mp k1
    by_cases ha : a ≤ j
    · exact .inr ⟨j, rfl, ha, h1, h2, fun i g1 g2 g3 => k2 i (mem i (by omega) g2) g1 ((at1 i).mpr ⟨g2, g3⟩)⟩
    · exfalso
      rcases last_in _ _ hr with z | hi
      · cases z
      · exact ha (List.mem_range'_1.mp hi).1
end Dk

/-! set(list of ints), sorted of a set of ints of any size -/
namespace Sx
open PySem PySem.Spec PyProof.Rows L2
/-- a set without members, as it is made -/
abbrev noS (w : World) : Obj := { cls := .type "set", dict := none, data := .set #[] 0 (.fresh 0 0 (!w.params.followText "set-order")) }
section
variable {P : Program} {w : World} {A : Around} {E : Value → Shared → Prop} {s : Shared}
/-- what set.__init__ leaves -/
def Done (w : World) (s : Shared) (ns : List Int) (r : Value) (t : Shared) : Prop :=
  r = .none ∧ ∃ h' tk c, t = { s with heap := h', toks := tk } ∧ SetR w h' s.heap.objs.size (fun j => decide (j ∈ ns)) c ∧ c ≤ ns.length ∧ ∀ b o, s.heap.get? b = some o → h'.get? b = some o
theorem vals_at {items : Array Value} {ns : List Int} (hi : IntsAre items.toList ns) (hz : items.size = ns.length) (i : Nat) (v : Value) (hv : items[i]? = some v) : ∃ k t, ns[i]? = some k ∧ v = .int k t := by
  have il : i < ns.length := by
    rw [← hz]
    exact (Array.getElem?_eq_some_iff.mp hv).1
  have ⟨t, e⟩ := IntsAre.int_at hi i v (by rw [Array.getElem?_toList]; exact hv)
  refine ⟨ns[i], t, List.getElem?_eq_getElem il, e.trans ?_⟩
  rw [List.getD_eq_getElem?_getD, List.getElem?_eq_getElem il]
  rfl
set_option maxHeartbeats 6400000 in
theorem set_init {l : Addr} {items : Array Value} {ns : List Int} (hh : A.handled = none) (hl : s.heap.IsList l items) (hi : IntsAre items.toList ns) (hb : ns.length + 1 < scanBound) :
    codeAny (model P w) A (.call (.builtin "set.__init__") ⟨[.ref s.heap.objs.size, .ref l], []⟩) (wants (Done w s ns) E) { s with heap := s.heap.push (noS w) } := by
  have hz : items.size = ns.length := by
    rw [← IntsAre.length hi, Array.length_toList]
  have hS : (s.heap.push (noS w)).get? s.heap.objs.size = some (noS w) := Heap.get?_push_size _ rfl
  have hT : Shared.TypeIs { s with heap := s.heap.push (noS w) } (.ref s.heap.objs.size) "set" := ⟨_, hS, rfl⟩
  refine codeAny_call_builtin F.called_set.init.plain F.entry_set_init (check_set_init_1 hT ?_)
  obtain ⟨⟨oc, od, da, os⟩, hol, c1, nl, c2⟩ := hl
  cases c1
  cases c2
  have l1 : (s.heap.push (noS w)).get? l = some { cls := .type "list", dict := od, data := .seq items nl, slots := os } := Heap.get?_push_of_some _ hol
  have l2 : (s.heap.push (noS w)).IsList l items := ⟨_, l1, rfl, nl, rfl⟩
  have f1 := F.sub_list_set
  have f2 := F.sub_list_frozenset
  have f3 : (Value.type "list" == Value.type "dict") = false := by decide
  have lt : l < s.heap.objs.size := Heap.lt_size hol
  have sz : (s.heap.push (noS w)).objs.size = s.heap.objs.size + 1 := Heap.size_push ..
  unfold Builtin.«set.__init__» noKeywords Builtin.Frozenset.updateFrom
  generalize hy : pyIter = PI
  wp_walk
  subst hy
  refine wpAny_pyIter_list l2 (wpAny_bind (wpAny_runValue ?_))
  have nl1 : l ≠ (s.heap.push (noS w)).objs.size := by
    rw [sz]
    exact Nat.ne_of_lt (Nat.lt_succ_of_lt lt)
  have nin : s.heap.objs.size ∉ [(s.heap.push (noS w)).objs.size, l] := fun z => by
    rcases List.mem_cons.mp z with z | z
    · rw [sz] at z
      exact absurd z (Nat.ne_of_lt (Nat.lt_succ_self _))
    · exact absurd (List.mem_singleton.mp z) (Nat.ne_of_gt lt)
  refine set_update_ints ((Walks.list (by simp [hh]) _ l nl1 items).toS) s.heap.objs.size nin ns hz hb (vals_at hi hz) (items.size - 0) 0 _ (by omega) (Nat.zero_le _) ⟨⟨_, Heap.get?_push_size _ rfl, rfl, rfl⟩, l2.push _⟩ ⟨0, Nat.le_refl 0, setR_new_at (Heap.get?_push_of_some _ hS)⟩ fun s' c' hm hc' hS' => ?_
  obtain ⟨h', g2, d', tk', o'⟩ := s'
  cases (show g2 = s.gens from hm.gens)
  cases (show d' = s.drawn from hm.drawn)
  cases (show o' = s.os from hm.os)
  rw [hz] at hc'
  refine wpAny_pure ?_
  refine wpAny_pure ⟨rfl, h', tk', c', rfl, hS', hc', fun b o e => ?_⟩
  have lb : b < s.heap.objs.size := Heap.lt_size e
  refine hm.heap b o (fun z => ?_) (Heap.get?_push_of_some _ (Heap.get?_push_of_some _ e))
  rcases List.mem_cons.mp z with z | z
  · exact absurd z (Nat.ne_of_lt lb)
  · have z := List.mem_singleton.mp z
    rw [sz] at z
    exact absurd z (Nat.ne_of_lt (Nat.lt_succ_of_lt lb))
set_option maxHeartbeats 6400000 in
theorem set_list {l : Addr} {items : Array Value} {ns : List Int} {Q : Value → Shared → Prop} (hh : A.handled = none) (hl : s.heap.IsList l items) (hi : IntsAre items.toList ns) (hb : ns.length + 1 < scanBound)
    (h : ∀ (h' : Heap) (tk c : Nat), SetR w h' s.heap.objs.size (fun j => decide (j ∈ ns)) c → c ≤ ns.length → (∀ b o, s.heap.get? b = some o → h'.get? b = some o) → Q (.ref s.heap.objs.size) { s with heap := h', toks := tk }) :
    wpAny (model P w) A (call (.type "set") [.ref l]) Q E s := by
  have ⟨c, tl, hmro⟩ := F.called_set.mro
  have hmade := F.called_set.made
  have hsub := F.called_set.sub
  refine wpAny_call (codeAny_of_tree ?_)
  show wpAny _ _ (callAny (.type "set") _) _ _ _
  refine wpAny_pure ⟨Code.quiet_builtin _ (by decide +kernel), codeAny_builtin F.entry_type_call ?_⟩
  rw [Around.under_plain (weight_type_call_type "set" [.ref l] []) rfl]
  have h1 := F.called_set.notType
  have h2 := F.called_set.canCreate
  have hct := F.typeCall_set_1 (.ref l)
  repeat (any_goals (first | assumption | wp_step))
  refine codeAny_mono (code_set_led1 (.ref l) (E := E) (Q₁ := fun v t => v = .ref s.heap.objs.size ∧ t = { s with heap := s.heap.push (noS w) }) ⟨rfl, rfl⟩) fun r t hr => ?_
  cases r with
  | error e => exact hr
  | ok fl =>
    cases fl with
    | ret v =>
      obtain ⟨rfl, rfl⟩ := hr
      have hT : Shared.TypeIs { s with heap := s.heap.push (noS w) } (.ref s.heap.objs.size) "set" := ⟨_, Heap.get?_push_size _ rfl, rfl⟩
      have hli := F.called_set.init.lookup
      have hbi := F.called_set.init.bind (.ref s.heap.objs.size)
      repeat (any_goals (first | assumption | wp_step))
      refine codeAny_mono (set_init (E := E) (by simpa using hh) hl hi hb) fun r2 t2 hr2 => ?_
      cases r2 with
      | error e => exact hr2
      | ok fl2 =>
        cases fl2 with
        | ret v2 =>
          obtain ⟨rfl, h', tk, c', rfl, x1, x2, x3⟩ := hr2
          repeat (any_goals (first | assumption | wp_step))
          exact h _ _ _ x1 x2 x3
        | _ => exact hr2.elim
    | _ => exact hr.elim
theorem sorted_setU {a : Addr} {S : Int → Bool} {n : Nat} {Q : Value → Shared → Prop} (R : SetR w s.heap a S n) (hh : A.handled = none)
    (hQ : ∀ s' p (out : List Value) (c : Nat) (ns : List Int), (∀ b o, s.heap.get? b = some o → s'.heap.get? b = some o) → s'.gens = s.gens → s'.os = s.os → s.heap.objs.size ≤ p →
      s'.heap.get? p = some (seqObj "list" out.toArray c) → IntsAre out ns → ns.Pairwise (· < ·) → (∀ k, k ∈ ns ↔ S k = true) → ns.length = n → Q (.ref p) s') :
    wpAny (model P w) A (call (.builtin "sorted") [.ref a]) Q E s := by
  obtain ⟨o, es, ep, t, ho, hex, hd, g, nd, hm, hb, hf, hn, hr, hl⟩ := R
  refine Calls.call_function_entry kind_sorted plain_sorted entry_sorted (args_sorted1 _) ?_
  unfold Builtin.«sorted»
  refine wpAny_bind (m := checkCount "sorted" 1 1 _) (wpAny_pure ?_)
  refine wpAny_bind (collect_set (A := A.in1) hh ⟨o, ho, hex.1, hd⟩ hf hb hr hl fun s1 vs k1 hz g1 o1 pm => ?_)
  have lv : vs.length = n := by rw [pm.length_eq, List.length_map, Array.length_toList]; exact hn
  have hv : vs.length ≤ sizeLine := by
    rw [lv, ← hn]
    exact Nat.le_of_lt (Nat.lt_trans hb (by decide))
  have hI : IntsAre vs (vs.map Builtin.Re.reRawOf) := ints_of vs fun v hv => by
    obtain ⟨e, he, q⟩ := List.mem_map.mp (pm.mem_iff.mp hv)
    obtain ⟨k, tk, h1, _⟩ := g e he
    exact ⟨k, tk, by rw [← q]; exact h1⟩
  have pk : (vs.map Builtin.Re.reRawOf).Perm (es.toList.map keyOf) := by
    have q := pm.map Builtin.Re.reRawOf
    rw [List.map_map] at q
    exact q
  refine wpAny_bind (wpAny_newList ?_ hv)
  have hoL : (s1.heap.push (seqObj "list" vs.toArray 0)).get? s1.heap.objs.size = some (seqObj "list" vs.toArray 0) := Heap.get?_push_size _ rfl
  refine wpAny_bind (wpAny_holding (wpAny_call_entry slot_list_sort ⟨_, hoL, rfl⟩ entry_list_sort (SrtO.list_sort_ord SrtO.swo_int hoL hv (fun h2 => SrtO.ints_sortable hI h2) fun out a1 a2 => ⟨_, rfl, ?_⟩) (args_list_sort _)))
  obtain ⟨b1, b2, b3⟩ := SrtO.ints_out hI a1 a2
  obtain ⟨c, hc⟩ := sortedHeap_at (vs := vs) (out := out.toArray) hoL
  have pn : (out.map SrtO.iv).Perm (es.toList.map keyOf) := b2.trans pk
  refine wpAny_pure ⟨_, rfl, hQ _ s1.heap.objs.size out c _ (fun b u e => ?_) g1 o1 hz hc b1 (lt_of_le_nodup _ b3 (pn.nodup_iff.mpr nd)) (fun k => by rw [pn.mem_iff, ← hm k]) ?_⟩
  · have q := k1 b u e
    have lt := Heap.lt_size q
    show (sortedHeap (s1.heap.push (seqObj "list" vs.toArray 0)) s1.heap.objs.size vs out.toArray).get? b = some u
    rw [sortedHeap_old (Nat.ne_of_lt lt) (by rw [size_push']; exact Nat.lt_succ_of_lt lt)]
    exact Heap.get?_push_of_some _ q
  · rw [pn.length_eq, List.length_map, Array.length_toList]; exact hn
end
section
variable {X : Cx}
def rSetL (K : PySem.W.Frag) (w : World) : List V → Hp → VK → Prop := fun xs H Q => ∃ (l : Addr) (ns : List Int), xs = [V.ref l] ∧ SqL K H l (ns.map V.int) ∧ ns.length ≤ 4000 ∧ ∀ p c, c ≤ ns.length → H p = none → Q (.ref p) (upd H p (SetO w p (fun j => decide (j ∈ ns)) c))
theorem cr_setL (hc : X.calm = true) : CallR X (.type "set") (rSetL X.K X.w) := by
  intro pins s σ H vs us Q I r h
  obtain ⟨l, ns, rfl, hs, hb, q⟩ := h
  obtain ⟨its, rv, hl, hz⟩ := I.list hs
  rw [Vals.ref1 r]
  refine set_list (I.ok.hd hc) hl.isList (by simpa using RZ.intsAre_vals rv) (by unfold scanBound; omega) fun h' tk c R hcn kp => ?_
  exact ⟨.ref _, _, I.laid (t' := tk) kp (Nat.le_refl _) (setO_new R), rfl, q _ c hcn (I.hok.fresh (Nat.le_refl _))⟩
def rSortSU (w : World) : List V → Hp → VK → Prop := fun vs H Q => ∃ (a : Addr) (S : Int → Bool) (n : Nat), vs = [V.ref a] ∧ H a = some (SetO w a S n) ∧ n ≤ 4000 ∧
  ∀ (ns : List Int) (p : Addr), ns.Pairwise (· < ·) → (∀ k : Int, k ∈ ns ↔ S k = true) → H p = none → Q (.ref p) (upd H p (.lst (ns.map V.int)))
theorem cr_sortSU (hc : X.calm = true) : CallR X (.builtin "sorted") (rSortSU X.w) := by
  intro pins s σ H vs us Q I r h
  obtain ⟨a, S, n, rfl, ha, hn4, q⟩ := h
  have R := setO_get I ha
  rw [Vals.ref1 r]
  refine sorted_setU R (I.ok.hd hc) fun s' p out c ns k g o hp hg hi hs hm hl => ?_
  have hlen : (ns.map V.int).length ≤ sizeLine := by rw [List.length_map, hl, sizeLine_eq]; omega
  have hn : H p = none := I.hok.fresh hp
  have J : Inv X pins σ (upd H p (.lst (ns.map V.int))) { s with heap := s'.heap, gens := s'.gens, drawn := s'.drawn, toks := s'.toks } :=
    I.call (ch := []) (Un.laid k hp hn) (I.hok.laid k hp ⟨hlen, out, c, vals_of_ints hi, hg⟩) (by rw [g]; exact I.bare) (fun _ z => nomatch z)
  have e : s' = { s with heap := s'.heap, gens := s'.gens, drawn := s'.drawn, toks := s'.toks } := by
    cases s'
    cases s
    cases o
    rfl
  rw [e]
  exact ⟨.ref p, _, J, rfl, q ns p hs hm hn⟩
end
end Sx

namespace Pk
abbrev Iv := Int × Int
def cell (R : List Iv) (x : Int) : Prop := ∃ r ∈ R, r.1 ≤ x ∧ x < r.2
def inn (R : List Iv) (x : Int) : Prop := ∃ r ∈ R, r.1 < x ∧ x < r.2
/-- stretches with signs, one behind another -/
def Chn (R : List Iv) : Prop := (∀ r ∈ R, r.1 < r.2) ∧ R.Pairwise (fun a b => a.2 ≤ b.1)
theorem Chn.tail {r : Iv} {R : List Iv} (h : Chn (r :: R)) : Chn R := ⟨fun x hx => h.1 x (List.mem_cons_of_mem _ hx), (List.pairwise_cons.mp h.2).2⟩
theorem Chn.head {r : Iv} {R : List Iv} (h : Chn (r :: R)) : r.1 < r.2 ∧ ∀ s ∈ R, r.2 ≤ s.1 := ⟨h.1 r (List.mem_cons_self ..), (List.pairwise_cons.mp h.2).1⟩
theorem cell_cons {r : Iv} {R : List Iv} {x : Int} : cell (r :: R) x ↔ (r.1 ≤ x ∧ x < r.2) ∨ cell R x := by
  unfold cell
  constructor
  · rintro ⟨s, hs, h⟩
    rcases List.mem_cons.mp hs with rfl | hs
    · exact .inl h
    · exact .inr ⟨s, hs, h⟩
  · rintro (h | ⟨s, hs, h⟩)
    · exact ⟨r, List.mem_cons_self .., h⟩
    · exact ⟨s, List.mem_cons_of_mem _ hs, h⟩
theorem inn_cons {r : Iv} {R : List Iv} {x : Int} : inn (r :: R) x ↔ (r.1 < x ∧ x < r.2) ∨ inn R x := by
  unfold inn
  constructor
  · rintro ⟨s, hs, h⟩
    rcases List.mem_cons.mp hs with rfl | hs
    · exact .inl h
    · exact .inr ⟨s, hs, h⟩
  · rintro (h | ⟨s, hs, h⟩)
    · exact ⟨r, List.mem_cons_self .., h⟩
    · exact ⟨s, List.mem_cons_of_mem _ hs, h⟩
theorem cell_nil {x : Int} : ¬ cell [] x := fun ⟨_, h, _⟩ => nomatch h
theorem inn_nil {x : Int} : ¬ inn [] x := fun ⟨_, h, _⟩ => nomatch h
theorem Chn.above {r : Iv} {R : List Iv} (h : Chn (r :: R)) {x : Int} : cell R x → r.2 ≤ x := fun ⟨s, hs, hx⟩ => Int.le_trans (h.head.2 s hs) hx.1
theorem Chn.above2 {r : Iv} {R : List Iv} (h : Chn (r :: R)) {x : Int} : inn R x → r.2 < x := fun ⟨s, hs, hx⟩ => Int.lt_of_le_of_lt (h.head.2 s hs) hx.1
theorem cell_empty {R : List Iv} (h : Chn R) (e : ∀ x, ¬ cell R x) : R = [] := by
  cases R with
  | nil => rfl
  | cons r R => exact absurd (cell_cons.mpr (.inl ⟨Int.le_refl _, h.head.1⟩)) (e r.1)
/-- such rows are told by their cells and by the points within -/
theorem Chn.uniq : ∀ {R S : List Iv}, Chn R → Chn S → (∀ x, cell R x ↔ cell S x) → (∀ x, inn R x ↔ inn S x) → R = S
  | [], S, _, hS, hc, _ => (cell_empty hS fun x h => cell_nil ((hc x).mpr h)).symm
  | r :: R, [], hR, _, hc, _ => cell_empty hR fun x h => cell_nil ((hc x).mp h)
  | r :: R, s :: S, hR, hS, hc, hi => by
    have r0 := hR.head.1
    have s0 := hS.head.1
    have e1 : r.1 = s.1 := by
      have h1 := (hc r.1).mp (cell_cons.mpr (.inl ⟨Int.le_refl _, r0⟩))
      have h2 := (hc s.1).mpr (cell_cons.mpr (.inl ⟨Int.le_refl _, s0⟩))
      have g1 : s.1 ≤ r.1 := by
        rcases cell_cons.mp h1 with h | h
        · exact h.1
        · have := hS.above h; omega
      have g2 : r.1 ≤ s.1 := by
        rcases cell_cons.mp h2 with h | h
        · exact h.1
        · have := hR.above h; omega
      omega
    have e2 : r.2 = s.2 := by
      rcases Int.lt_trichotomy r.2 s.2 with c | c | c
      · exfalso
        have := (hi r.2).mpr (inn_cons.mpr (.inl ⟨by omega, c⟩))
        rcases inn_cons.mp this with h | h
        · omega
        · have := hR.above2 h; omega
      · exact c
      · exfalso
        have := (hi s.2).mp (inn_cons.mpr (.inl ⟨by omega, c⟩))
        rcases inn_cons.mp this with h | h
        · omega
        · have := hS.above2 h; omega
    have e : r = s := Prod.ext e1 e2
    subst e
    refine congrArg (r :: ·) (Chn.uniq hR.tail hS.tail (fun x => ?_) fun x => ?_)
    · constructor
      · intro h
        have g := hR.above h
        rcases cell_cons.mp ((hc x).mp (cell_cons.mpr (.inr h))) with z | z
        · omega
        · exact z
      · intro h
        have g := hS.above h
        rcases cell_cons.mp ((hc x).mpr (cell_cons.mpr (.inr h))) with z | z
        · omega
        · exact z
    · constructor
      · intro h
        have g := hR.above2 h
        rcases inn_cons.mp ((hi x).mp (inn_cons.mpr (.inr h))) with z | z
        · omega
        · exact z
      · intro h
        have g := hS.above2 h
        rcases inn_cons.mp ((hi x).mpr (inn_cons.mpr (.inr h))) with z | z
        · omega
        · exact z
/-! ### by neighbouring ends: the law's way -/
/-- J: whether a run goes on at an end; C p q: whether the segment is covered -/
def go (J : Int → Bool) (C : Int → Int → Bool) : List Int → Option Int → List Iv
  | [], _ => []
  | p :: rest, b =>
    let behind := match rest with | [] => false | q :: _ => C p q
    match b with
    | some b0 => if !behind || !J p then (b0, p) :: go J C rest (if behind then some p else none) else go J C rest (some b0)
    | none => go J C rest (if behind then some p else none)
variable {J : Int → Bool} {C : Int → Int → Bool} {U I : Int → Prop}
/-- the ends from here: what is covered between two neighbours, and nothing behind the last -/
inductive Sp (C : Int → Int → Bool) (U I : Int → Prop) : List Int → Prop
  | one {p : Int} : (∀ x, p ≤ x → ¬ U x) → (∀ x, p < x → ¬ I x) → Sp C U I [p]
  | cons {p q : Int} {rest : List Int} : p < q → (∀ x, p ≤ x → x < q → (U x ↔ C p q = true)) → (∀ x, p < x → x < q → (I x ↔ C p q = true)) → Sp C U I (q :: rest) → Sp C U I (p :: q :: rest)
theorem go_ok (hI : ∀ p, I p → U p ∧ U (p - 1)) (hJ : ∀ p, U p → U (p - 1) → (I p ↔ J p = true)) : ∀ {l : List Int} {p : Int}, Sp C U I (p :: l) → ∀ b : Option Int, (∀ b0, b = some b0 → b0 < p ∧ U (p - 1)) → (b = none → ¬ I p) →
    Chn (go J C (p :: l) b) ∧ (∀ r ∈ go J C (p :: l) b, p ≤ r.1 ∨ b = some r.1) ∧ (∀ x, cell (go J C (p :: l) b) x ↔ (∃ b0, b = some b0 ∧ b0 ≤ x ∧ x < p) ∨ (p ≤ x ∧ U x)) ∧
    (∀ x, inn (go J C (p :: l) b) x ↔ (∃ b0, b = some b0 ∧ b0 < x ∧ x < p) ∨ (p ≤ x ∧ I x))
  | [], p, .one hU hI', none, _, hn => by
    have e : go J C [p] none = [] := rfl
    rw [e]
    refine ⟨⟨fun r h => absurd h List.not_mem_nil, List.Pairwise.nil⟩, (fun r h => absurd h List.not_mem_nil), fun x => ⟨fun h => absurd h cell_nil, ?_⟩, fun x => ⟨fun h => absurd h inn_nil, ?_⟩⟩
    · rintro (⟨_, h, _⟩ | ⟨h1, h2⟩)
      · cases h
      · exact absurd h2 (hU x h1)
    · rintro (⟨_, h, _⟩ | ⟨h1, h2⟩)
      · cases h
      · exact absurd (hI x h2).1 (hU x h1)
  | [], p, .one hU hI', some b0, hb, _ => by
    have e : go J C [p] (some b0) = [(b0, p)] := rfl
    rw [e]
    have := (hb b0 rfl).1
    refine ⟨⟨fun r h => by rw [List.mem_singleton.mp h]; exact this, List.pairwise_singleton _ _⟩, (fun r h => .inr (by rw [List.mem_singleton.mp h])), fun x => ?_, fun x => ?_⟩
    · rw [cell_cons]
      constructor
      · rintro (h | h)
        · exact .inl ⟨b0, rfl, h⟩
        · exact absurd h cell_nil
      · rintro (⟨_, h, h2⟩ | ⟨h1, h2⟩)
        · cases h; exact .inl h2
        · exact absurd h2 (hU x h1)
    · rw [inn_cons]
      constructor
      · rintro (h | h)
        · exact .inl ⟨b0, rfl, h⟩
        · exact absurd h inn_nil
      · rintro (⟨_, h, h2⟩ | ⟨h1, h2⟩)
        · cases h; exact .inl h2
        · exact absurd (hI x h2).1 (hU x h1)
  | q :: rest, p, .cons pq hU hI' sp, b, hb, hn => by
    have Up : U p ↔ C p q = true := hU p (Int.le_refl _) pq
    have Uq : U (q - 1) ↔ C p q = true := hU (q - 1) (by omega) (by omega)
    cases c : C p q with
    | false =>
      have nU : ∀ x, p ≤ x → x < q → ¬ U x := fun x h1 h2 h => by have := (hU x h1 h2).mp h; rw [c] at this; cases this
      have nI : ∀ x, p ≤ x → x ≤ q → ¬ I x := fun x h1 h2 h => by
        rcases Int.lt_or_le x q with z | z
        · exact nU x h1 z (hI x h).1
        · exact nU (x - 1) (by omega) (by omega) (hI x h).2
      obtain ⟨k1, k2, k3, k4⟩ := go_ok hI hJ sp none (fun _ h => nomatch h) (fun _ => nI q (by omega) (Int.le_refl _))
      have ce : ∀ x, cell (go J C (q :: rest) none) x ↔ p ≤ x ∧ U x := fun x => by
        rw [k3]
        constructor
        · rintro (⟨_, h, _⟩ | h)
          · cases h
          · exact ⟨by omega, h.2⟩
        · intro h
          refine .inr ⟨?_, h.2⟩
          rcases Int.lt_or_le x q with z | z
          · exact absurd h.2 (nU x h.1 z)
          · exact z
      have ie : ∀ x, inn (go J C (q :: rest) none) x ↔ p ≤ x ∧ I x := fun x => by
        rw [k4]
        constructor
        · rintro (⟨_, h, _⟩ | h)
          · cases h
          · exact ⟨by omega, h.2⟩
        · intro h
          refine .inr ⟨?_, h.2⟩
          rcases Int.lt_or_le x q with z | z
          · exact absurd h.2 (nI x h.1 (by omega))
          · exact z
      cases b with
      | none =>
        have e : go J C (p :: q :: rest) none = go J C (q :: rest) none := by
          show go J C (q :: rest) (if C p q = true then some p else none) = _
          rw [c]; rfl
        rw [e]
        refine ⟨k1, fun r hr => ?_, fun x => ?_, fun x => ?_⟩
        · rcases k2 r hr with z | z
          · exact .inl (by omega)
          · cases z
        · rw [ce]
          exact ⟨.inr, fun h => h.elim (fun ⟨_, z, _⟩ => nomatch z) id⟩
        · rw [ie]
          exact ⟨.inr, fun h => h.elim (fun ⟨_, z, _⟩ => nomatch z) id⟩
      | some b0 =>
        have b1 := (hb b0 rfl).1
        have e : go J C (p :: q :: rest) (some b0) = (b0, p) :: go J C (q :: rest) none := by
          show (if (!C p q || !J p) = true then (b0, p) :: go J C (q :: rest) (if C p q = true then some p else none) else go J C (q :: rest) (some b0)) = _
          rw [c]; rfl
        rw [e]
        refine ⟨⟨fun r hr => ?_, List.pairwise_cons.mpr ⟨fun r hr => ?_, k1.2⟩⟩, fun r hr => ?_, fun x => ?_, fun x => ?_⟩
        · rcases List.mem_cons.mp hr with rfl | hr
          · exact b1
          · exact k1.1 r hr
        · rcases k2 r hr with z | z
          · show p ≤ r.1; omega
          · cases z
        · rcases List.mem_cons.mp hr with rfl | hr
          · exact .inr rfl
          · rcases k2 r hr with z | z
            · exact .inl (by omega)
            · cases z
        · rw [cell_cons, ce]
          exact or_congr ⟨fun h => ⟨b0, rfl, h⟩, fun ⟨_, h, h2⟩ => by cases h; exact h2⟩ Iff.rfl
        · rw [inn_cons, ie]
          exact or_congr ⟨fun h => ⟨b0, rfl, h⟩, fun ⟨_, h, h2⟩ => by cases h; exact h2⟩ Iff.rfl
    | true =>
      have aU : ∀ x, p ≤ x → x < q → U x := fun x h1 h2 => (hU x h1 h2).mpr c
      have aI : ∀ x, p < x → x < q → I x := fun x h1 h2 => (hI' x h1 h2).mpr c
      have hbq : ∀ d : Int, d ≤ p → ∀ b0, some d = some b0 → b0 < q ∧ U (q - 1) := fun d hd b0 h => by
        cases h
        exact ⟨by omega, aU (q - 1) (by omega) (by omega)⟩
      cases b with
      | none =>
        obtain ⟨k1, k2, k3, k4⟩ := go_ok hI hJ sp (some p) (hbq p (Int.le_refl _)) (fun h => nomatch h)
        have e : go J C (p :: q :: rest) none = go J C (q :: rest) (some p) := by
          show go J C (q :: rest) (if C p q = true then some p else none) = _
          rw [c]; rfl
        rw [e]
        refine ⟨k1, fun r hr => ?_, fun x => ?_, fun x => ?_⟩
        · rcases k2 r hr with z | z
          · exact .inl (by omega)
          · have := Option.some.inj z; exact .inl (by omega)
        · rw [k3]
          constructor
          · rintro (⟨_, h, h2⟩ | h)
            · cases h; exact .inr ⟨h2.1, aU x h2.1 h2.2⟩
            · exact .inr ⟨by omega, h.2⟩
          · rintro (⟨_, h, _⟩ | h)
            · cases h
            · rcases Int.lt_or_le x q with z | z
              · exact .inl ⟨p, rfl, h.1, z⟩
              · exact .inr ⟨z, h.2⟩
        · rw [k4]
          constructor
          · rintro (⟨_, h, h2⟩ | h)
            · cases h; exact .inr ⟨by omega, aI x h2.1 h2.2⟩
            · exact .inr ⟨by omega, h.2⟩
          · rintro (⟨_, h, _⟩ | h)
            · cases h
            · rcases Int.lt_or_le x q with z | z
              · refine .inl ⟨p, rfl, ?_, z⟩
                rcases Int.lt_or_le p x with y | y
                · exact y
                · rw [show x = p by omega] at h
                  exact absurd h.2 (hn rfl)
              · exact .inr ⟨z, h.2⟩
      | some b0 =>
        obtain ⟨b1, b2⟩ := hb b0 rfl
        have Ip := hJ p (aU p (Int.le_refl _) pq) b2
        cases j : J p with
        | true =>
          obtain ⟨k1, k2, k3, k4⟩ := go_ok hI hJ sp (some b0) (hbq b0 (by omega)) (fun h => nomatch h)
          have e : go J C (p :: q :: rest) (some b0) = go J C (q :: rest) (some b0) := by
            show (if (!C p q || !J p) = true then (b0, p) :: go J C (q :: rest) (if C p q = true then some p else none) else go J C (q :: rest) (some b0)) = _
            rw [c, j]; rfl
          rw [e]
          have Ip := Ip.mpr j
          refine ⟨k1, fun r hr => ?_, fun x => ?_, fun x => ?_⟩
          · rcases k2 r hr with z | z
            · exact .inl (by omega)
            · exact .inr z
          · rw [k3]
            constructor
            · rintro (⟨_, h, h2⟩ | h)
              · cases h
                rcases Int.lt_or_le x p with z | z
                · exact .inl ⟨b0, rfl, h2.1, z⟩
                · exact .inr ⟨z, aU x z h2.2⟩
              · exact .inr ⟨by omega, h.2⟩
            · rintro (⟨_, h, h2⟩ | h)
              · cases h; exact .inl ⟨b0, rfl, h2.1, by omega⟩
              · rcases Int.lt_or_le x q with z | z
                · exact .inl ⟨b0, rfl, by omega, z⟩
                · exact .inr ⟨z, h.2⟩
          · rw [k4]
            constructor
            · rintro (⟨_, h, h2⟩ | h)
              · cases h
                rcases Int.lt_trichotomy x p with z | z | z
                · exact .inl ⟨b0, rfl, h2.1, z⟩
                · exact .inr ⟨by omega, by rw [z]; exact Ip⟩
                · exact .inr ⟨by omega, aI x z h2.2⟩
              · exact .inr ⟨by omega, h.2⟩
            · rintro (⟨_, h, h2⟩ | h)
              · cases h; exact .inl ⟨b0, rfl, h2.1, by omega⟩
              · rcases Int.lt_or_le x q with z | z
                · exact .inl ⟨b0, rfl, by omega, z⟩
                · exact .inr ⟨z, h.2⟩
        | false =>
          have nIp : ¬ I p := fun z => by have := Ip.mp z; rw [j] at this; cases this
          obtain ⟨k1, k2, k3, k4⟩ := go_ok hI hJ sp (some p) (hbq p (Int.le_refl _)) (fun h => nomatch h)
          have e : go J C (p :: q :: rest) (some b0) = (b0, p) :: go J C (q :: rest) (some p) := by
            show (if (!C p q || !J p) = true then (b0, p) :: go J C (q :: rest) (if C p q = true then some p else none) else go J C (q :: rest) (some b0)) = _
            rw [c, j]; rfl
          rw [e]
          have low : ∀ r ∈ go J C (q :: rest) (some p), p ≤ r.1 := fun r hr => by
            rcases k2 r hr with z | z
            · omega
            · have := Option.some.inj z; omega
          refine ⟨⟨fun r hr => ?_, List.pairwise_cons.mpr ⟨low, k1.2⟩⟩, fun r hr => ?_, fun x => ?_, fun x => ?_⟩
          · rcases List.mem_cons.mp hr with rfl | hr
            · exact b1
            · exact k1.1 r hr
          · rcases List.mem_cons.mp hr with rfl | hr
            · exact .inr rfl
            · exact .inl (low r hr)
          · rw [cell_cons, k3]
            constructor
            · rintro (h | ⟨_, h, h2⟩ | h)
              · exact .inl ⟨b0, rfl, h⟩
              · cases h; exact .inr ⟨h2.1, aU x h2.1 h2.2⟩
              · exact .inr ⟨by omega, h.2⟩
            · rintro (⟨_, h, h2⟩ | h)
              · cases h; exact .inl h2
              · rcases Int.lt_or_le x q with z | z
                · exact .inr (.inl ⟨p, rfl, h.1, z⟩)
                · exact .inr (.inr ⟨z, h.2⟩)
          · rw [inn_cons, k4]
            constructor
            · rintro (h | ⟨_, h, h2⟩ | h)
              · exact .inl ⟨b0, rfl, h⟩
              · cases h; exact .inr ⟨by omega, aI x h2.1 h2.2⟩
              · exact .inr ⟨by omega, h.2⟩
            · rintro (⟨_, h, h2⟩ | h)
              · cases h; exact .inl h2
              · rcases Int.lt_or_le x q with z | z
                · refine .inr (.inl ⟨p, rfl, ?_, z⟩)
                  rcases Int.lt_or_le p x with y | y
                  · exact y
                  · rw [show x = p by omega] at h
                    exact absurd h.2 nIp
                · exact .inr (.inr ⟨z, h.2⟩)
/-! ### by merging in order: joined stretches -/
def mg : Iv → List Iv → List Iv
  | l, [] => [l]
  | l, s :: r => if s.1 ≤ l.2 then mg (l.1, max l.2 s.2) r else l :: mg s r
theorem mg_ok : ∀ (r : List Iv) (l : Iv), l.1 < l.2 → (∀ s ∈ r, s.1 < s.2 ∧ l.1 ≤ s.1) → r.Pairwise (fun a b => a.1 ≤ b.1) →
    Chn (mg l r) ∧ (∀ z ∈ mg l r, l.1 ≤ z.1) ∧ (∀ x, cell (mg l r) x ↔ (l.1 ≤ x ∧ x < l.2) ∨ cell r x) ∧ (∀ x, inn (mg l r) x ↔ cell (mg l r) x ∧ cell (mg l r) (x - 1))
  | [], l, hl, _, _ => by
    have e : mg l [] = [l] := rfl
    rw [e]
    refine ⟨⟨fun z h => by rw [List.mem_singleton.mp h]; exact hl, List.pairwise_singleton _ _⟩, fun z h => by rw [List.mem_singleton.mp h]; exact Int.le_refl _, fun x => cell_cons, fun x => ?_⟩
    rw [inn_cons, cell_cons, cell_cons]
    have a := @inn_nil x
    have b := @cell_nil x
    have c := @cell_nil (x - 1)
    constructor
    · rintro (h | h)
      · exact ⟨.inl (by omega), .inl (by omega)⟩
      · exact absurd h a
    · rintro ⟨h1 | h1, h2 | h2⟩
      · exact .inl (by omega)
      · exact absurd h2 c
      · exact absurd h1 b
      · exact absurd h1 b
  | s :: r, l, hl, hr, hp => by
    obtain ⟨s1, s2⟩ := hr s (List.mem_cons_self ..)
    obtain ⟨p1, p2⟩ := List.pairwise_cons.mp hp
    by_cases c : s.1 ≤ l.2
    · have e : mg l (s :: r) = mg (l.1, max l.2 s.2) r := by
        show (if s.1 ≤ l.2 then _ else _) = _
        rw [if_pos c]
      rw [e]
      obtain ⟨k1, k2, k3, k4⟩ := mg_ok r (l.1, max l.2 s.2) (show l.1 < max l.2 s.2 by omega) (fun z hz => ⟨(hr z (List.mem_cons_of_mem _ hz)).1, (hr z (List.mem_cons_of_mem _ hz)).2⟩) p2
      refine ⟨k1, k2, fun x => ?_, k4⟩
      rw [k3, cell_cons, ← or_assoc]
      refine or_congr ⟨fun h => ?_, fun h => ?_⟩ Iff.rfl
      · have h1 : l.1 ≤ x := h.1
        have h2 : x < max l.2 s.2 := h.2
        rcases Int.lt_or_le x l.2 with z | z
        · exact .inl ⟨h1, z⟩
        · exact .inr (by omega)
      · show l.1 ≤ x ∧ x < max l.2 s.2
        rcases h with h | h <;> omega
    · have e : mg l (s :: r) = l :: mg s r := by
        show (if s.1 ≤ l.2 then _ else _) = _
        rw [if_neg c]
      rw [e]
      obtain ⟨k1, k2, k3, k4⟩ := mg_ok r s s1 (fun z hz => ⟨(hr z (List.mem_cons_of_mem _ hz)).1, p1 z hz⟩) p2
      have lo : ∀ x, cell (mg s r) x → s.1 ≤ x := fun x ⟨z, hz, h⟩ => Int.le_trans (k2 z hz) h.1
      refine ⟨⟨fun z hz => ?_, List.pairwise_cons.mpr ⟨fun z hz => by have := k2 z hz; omega, k1.2⟩⟩, fun z hz => ?_, fun x => ?_, fun x => ?_⟩
      · rcases List.mem_cons.mp hz with rfl | hz
        · exact hl
        · exact k1.1 z hz
      · rcases List.mem_cons.mp hz with rfl | hz
        · exact Int.le_refl _
        · have := k2 z hz; omega
      · rw [cell_cons, k3, cell_cons]
      · rw [inn_cons, cell_cons, cell_cons, k4]
        have a := lo x
        have b := lo (x - 1)
        constructor
        · rintro (h | h)
          · exact ⟨.inl (by omega), .inl (by omega)⟩
          · exact ⟨.inr h.1, .inr h.2⟩
        · rintro ⟨h1 | h1, h2 | h2⟩
          · exact .inl (by omega)
          · have := b h2; omega
          · have := a h1; omega
          · exact .inr ⟨h1, h2⟩
/-! ### by merging in order: settled picks -/
def Jn (l s : Iv) : Prop := s.1 < l.2 ∨ (s.1 = l.2 ∧ (l.1 = l.2 ∨ s.1 = s.2))
instance (l s : Iv) : Decidable (Jn l s) := by unfold Jn; infer_instance
def Sep (a b : Iv) : Prop := a.2 < b.1 ∨ (a.2 = b.1 ∧ a.1 < a.2 ∧ b.1 < b.2)
variable {α : Type}
def sg (f : α → Iv) : Iv × List α → List α → List (Iv × List α)
  | l, [] => [l]
  | l, a :: r => if Jn l.1 (f a) then sg f ((l.1.1, max l.1.2 (f a).2), l.2 ++ [a]) r else l :: sg f (f a, [a]) r
/-- a group with its picks: it is as long as they say -/
structure Grp (f : α → Iv) (g : Iv × List α) : Prop where
  le : g.1.1 ≤ g.1.2
  sub : ∀ a ∈ g.2, g.1.1 ≤ (f a).1 ∧ (f a).2 ≤ g.1.2
  cell : ∀ x, g.1.1 ≤ x → x < g.1.2 → ∃ a ∈ g.2, (f a).1 ≤ x ∧ x < (f a).2
  inn : ∀ x, g.1.1 < x → x < g.1.2 → ∃ a ∈ g.2, (f a).1 < x ∧ x < (f a).2
  ne : g.1.1 = g.1.2 → ∃ a ∈ g.2, f a = g.1
theorem Grp.one {f : α → Iv} {a : α} (h : (f a).1 ≤ (f a).2) : Grp f (f a, [a]) where
  le := h
  sub := fun b hb => by rw [List.mem_singleton.mp hb]; exact ⟨Int.le_refl _, Int.le_refl _⟩
  cell := fun x h1 h2 => ⟨a, List.mem_singleton.mpr rfl, h1, h2⟩
  inn := fun x h1 h2 => ⟨a, List.mem_singleton.mpr rfl, h1, h2⟩
  ne := fun _ => ⟨a, List.mem_singleton.mpr rfl, rfl⟩
theorem Grp.add {f : α → Iv} {l : Iv × List α} {a : α} (g : Grp f l) (h : (f a).1 ≤ (f a).2) (lo : l.1.1 ≤ (f a).1) (j : Jn l.1 (f a)) : Grp f ((l.1.1, max l.1.2 (f a).2), l.2 ++ [a]) where
  le := by have := g.le; show l.1.1 ≤ max l.1.2 (f a).2; omega
  sub := fun b hb => by
    show l.1.1 ≤ (f b).1 ∧ (f b).2 ≤ max l.1.2 (f a).2
    rcases List.mem_append.mp hb with hb | hb
    · have := g.sub b hb; omega
    · rw [List.mem_singleton.mp hb]; omega
  cell := fun x h1 h2 => by
    have h1 : l.1.1 ≤ x := h1
    have h2 : x < max l.1.2 (f a).2 := h2
    unfold Jn at j
    have := g.le
    rcases Int.lt_or_le x l.1.2 with z | z
    · obtain ⟨b, hb, h⟩ := g.cell x h1 z
      exact ⟨b, List.mem_append_left _ hb, h⟩
    · exact ⟨a, List.mem_append_right _ (List.mem_singleton.mpr rfl), by omega⟩
  inn := fun x h1 h2 => by
    have h1 : l.1.1 < x := h1
    have h2 : x < max l.1.2 (f a).2 := h2
    unfold Jn at j
    have := g.le
    rcases Int.lt_or_le x l.1.2 with z | z
    · obtain ⟨b, hb, h⟩ := g.inn x h1 z
      exact ⟨b, List.mem_append_left _ hb, h⟩
    · exact ⟨a, List.mem_append_right _ (List.mem_singleton.mpr rfl), by omega⟩
  ne := fun e => by
    have e : l.1.1 = max l.1.2 (f a).2 := e
    have := g.le
    obtain ⟨b, hb, h⟩ := g.ne (by omega)
    refine ⟨b, List.mem_append_left _ hb, ?_⟩
    rw [h]
    exact Prod.ext rfl (show l.1.2 = max l.1.2 (f a).2 by omega)
def Lx (a b : Iv) : Prop := a.1 < b.1 ∨ (a.1 = b.1 ∧ a.2 ≤ b.2)
theorem Lx.le {a b : Iv} (h : Lx a b) : a.1 ≤ b.1 := by unfold Lx at h; omega
theorem sg_ok (f : α → Iv) : ∀ (r : List α) (l : Iv × List α), Grp f l → (∀ a ∈ r, (f a).1 ≤ (f a).2 ∧ l.1.1 ≤ (f a).1) → r.Pairwise (fun a b => Lx (f a) (f b)) →
    (∀ g ∈ sg f l r, Grp f g ∧ l.1.1 ≤ g.1.1) ∧ (sg f l r).Pairwise (fun a b => Sep a.1 b.1) ∧ (∀ a, (∃ g ∈ sg f l r, a ∈ g.2) ↔ a ∈ l.2 ∨ a ∈ r)
  | [], l, hl, _, _ => by
    have e : sg f l [] = [l] := rfl
    rw [e]
    refine ⟨fun g h => by rw [List.mem_singleton.mp h]; exact ⟨hl, Int.le_refl _⟩, List.pairwise_singleton _ _, fun a => ⟨fun ⟨g, hg, h⟩ => .inl (by rw [← List.mem_singleton.mp hg]; exact h), ?_⟩⟩
    rintro (h | h)
    · exact ⟨l, List.mem_singleton.mpr rfl, h⟩
    · cases h
  | a :: r, l, hl, hr, hp => by
    obtain ⟨a1, a2⟩ := hr a (List.mem_cons_self ..)
    obtain ⟨p1, p2⟩ := List.pairwise_cons.mp hp
    have lle := hl.le
    by_cases c : Jn l.1 (f a)
    · have e : sg f l (a :: r) = sg f ((l.1.1, max l.1.2 (f a).2), l.2 ++ [a]) r := by
        show (if Jn l.1 (f a) then _ else _) = _
        rw [if_pos c]
      rw [e]
      obtain ⟨k1, k2, k3⟩ := sg_ok f r ((l.1.1, max l.1.2 (f a).2), l.2 ++ [a]) (hl.add a1 a2 c) (fun z hz => ⟨(hr z (List.mem_cons_of_mem _ hz)).1, (hr z (List.mem_cons_of_mem _ hz)).2⟩) p2
      refine ⟨k1, k2, fun b => ?_⟩
      rw [k3]
      show b ∈ l.2 ++ [a] ∨ b ∈ r ↔ _
      rw [List.mem_append, List.mem_singleton, List.mem_cons, or_assoc]
    · have e : sg f l (a :: r) = l :: sg f (f a, [a]) r := by
        show (if Jn l.1 (f a) then _ else _) = _
        rw [if_neg c]
      rw [e]
      obtain ⟨k1, k2, k3⟩ := sg_ok f r (f a, [a]) (Grp.one a1) (fun z hz => ⟨(hr z (List.mem_cons_of_mem _ hz)).1, (p1 z hz).le⟩) p2
      have lo : ∀ g ∈ sg f (f a, [a]) r, (f a).1 ≤ g.1.1 := fun g hg => (k1 g hg).2
      unfold Jn at c
      refine ⟨fun g hg => ?_, List.pairwise_cons.mpr ⟨fun g hg => ?_, k2⟩, fun b => ?_⟩
      · rcases List.mem_cons.mp hg with rfl | hg
        · exact ⟨hl, Int.le_refl _⟩
        · exact ⟨(k1 g hg).1, by have := lo g hg; omega⟩
      · have g1 := lo g hg
        have gg := (k1 g hg).1
        have gle := gg.le
        unfold Sep
        rcases Int.lt_or_le l.1.2 g.1.1 with z | z
        · exact .inl z
        · refine .inr ⟨by omega, by omega, ?_⟩
          rcases Int.lt_or_le g.1.1 g.1.2 with y | y
          · exact y
          · exfalso
            obtain ⟨b, hb, eb⟩ := gg.ne (by omega)
            rcases (k3 b).mp ⟨g, hg, hb⟩ with h | h
            · have h : b = a := List.mem_singleton.mp h
              rw [h] at eb
              rw [← eb] at y z
              omega
            · have := p1 b h
              unfold Lx at this
              rw [eb] at this
              omega
      · constructor
        · rintro ⟨g, hg, h⟩
          rcases List.mem_cons.mp hg with rfl | hg
          · exact .inl h
          · rcases (k3 b).mp ⟨g, hg, h⟩ with z | z
            · exact .inr (by rw [List.mem_singleton.mp z]; exact List.mem_cons_self ..)
            · exact .inr (List.mem_cons_of_mem _ z)
        · rintro (h | h)
          · exact ⟨l, List.mem_cons_self .., h⟩
          · obtain ⟨g, hg, z⟩ := (k3 b).mpr (by
              rcases List.mem_cons.mp h with rfl | h
              · exact .inl (List.mem_singleton.mpr rfl)
              · exact .inr h)
            exact ⟨g, List.mem_cons_of_mem _ hg, z⟩
/-- what is told of the groups of picks in order -/
structure Gs (f : α → Iv) (T : List α) (R : List (Iv × List α)) : Prop where
  grp : ∀ g ∈ R, Grp f g
  sep : R.Pairwise (fun a b => Sep a.1 b.1)
  mem : ∀ a, (∃ g ∈ R, a ∈ g.2) ↔ a ∈ T
theorem Gs.of {f : α → Iv} {a : α} {r : List α} (h1 : ∀ b ∈ a :: r, (f b).1 ≤ (f b).2) (h2 : (a :: r).Pairwise (fun a b => Lx (f a) (f b))) : Gs f (a :: r) (sg f (f a, [a]) r) := by
  obtain ⟨p1, p2⟩ := List.pairwise_cons.mp h2
  obtain ⟨k1, k2, k3⟩ := sg_ok f r (f a, [a]) (Grp.one (h1 a (List.mem_cons_self ..))) (fun b hb => ⟨h1 b (List.mem_cons_of_mem _ hb), (p1 b hb).le⟩) p2
  refine ⟨fun g hg => (k1 g hg).1, k2, fun b => ?_⟩
  rw [k3, List.mem_singleton, List.mem_cons]
section
variable {f : α → Iv} {T : List α} {R : List (Iv × List α)} (h : Gs f T R)
include h
theorem Gs.eq {g g' : Iv × List α} (hg : g ∈ R) (hg' : g' ∈ R) {x : Int} (h1 : g.1.1 ≤ x) (h2 : x < g.1.2) (h3 : g'.1.1 ≤ x) (h4 : x < g'.1.2) : g = g' := by
  obtain ⟨i, hi, ei⟩ := List.getElem_of_mem hg
  obtain ⟨j, hj, ej⟩ := List.getElem_of_mem hg'
  have p := List.pairwise_iff_getElem.mp h.sep
  rcases Nat.lt_trichotomy i j with c | c | c
  · have := p i j hi hj c
    rw [ei, ej] at this
    unfold Sep at this
    omega
  · subst c
    rw [← ei, ← ej]
  · have := p j i hj hi c
    rw [ei, ej] at this
    unfold Sep at this
    omega
/-- the groups with signs -/
theorem Gs.chn : Chn ((R.map Prod.fst).filter fun r => decide (r.1 < r.2)) := by
  refine ⟨fun r hr => of_decide_eq_true (List.mem_filter.mp hr).2, List.Pairwise.filter _ (List.pairwise_map.mpr (h.sep.imp fun {a b} z => ?_))⟩
  unfold Sep at z
  omega
theorem Gs.cells (x : Int) : cell ((R.map Prod.fst).filter fun r => decide (r.1 < r.2)) x ↔ cell (T.map f) x := by
  constructor
  · rintro ⟨r, hr, h1, h2⟩
    obtain ⟨g, hg, rfl⟩ := List.mem_map.mp (List.mem_filter.mp hr).1
    obtain ⟨a, ha, z⟩ := (h.grp g hg).cell x h1 h2
    exact ⟨f a, List.mem_map.mpr ⟨a, (h.mem a).mp ⟨g, hg, ha⟩, rfl⟩, z⟩
  · rintro ⟨r, hr, h1, h2⟩
    obtain ⟨a, ha, rfl⟩ := List.mem_map.mp hr
    obtain ⟨g, hg, hag⟩ := (h.mem a).mpr ha
    have := (h.grp g hg).sub a hag
    exact ⟨g.1, List.mem_filter.mpr ⟨List.mem_map.mpr ⟨g, hg, rfl⟩, decide_eq_true (by omega)⟩, by omega, by omega⟩
theorem Gs.inns (x : Int) : inn ((R.map Prod.fst).filter fun r => decide (r.1 < r.2)) x ↔ inn (T.map f) x := by
  constructor
  · rintro ⟨r, hr, h1, h2⟩
    obtain ⟨g, hg, rfl⟩ := List.mem_map.mp (List.mem_filter.mp hr).1
    obtain ⟨a, ha, z⟩ := (h.grp g hg).inn x h1 h2
    exact ⟨f a, List.mem_map.mpr ⟨a, (h.mem a).mp ⟨g, hg, ha⟩, rfl⟩, z⟩
  · rintro ⟨r, hr, h1, h2⟩
    obtain ⟨a, ha, rfl⟩ := List.mem_map.mp hr
    obtain ⟨g, hg, hag⟩ := (h.mem a).mpr ha
    have := (h.grp g hg).sub a hag
    exact ⟨g.1, List.mem_filter.mpr ⟨List.mem_map.mpr ⟨g, hg, rfl⟩, decide_eq_true (by omega)⟩, by omega, by omega⟩
/-- the carets that stay -/
theorem Gs.carets (le : ∀ a ∈ T, (f a).1 ≤ (f a).2) (p : Int) : (p, p) ∈ R.map Prod.fst ↔ (∃ a ∈ T, f a = (p, p)) ∧ ∀ a ∈ T, (f a).1 < (f a).2 → ¬ ((f a).1 ≤ p ∧ p ≤ (f a).2) := by
  constructor
  · intro hp
    obtain ⟨g, hg, e⟩ := List.mem_map.mp hp
    have e1 : g.1.1 = p := by rw [e]
    have e2 : g.1.2 = p := by rw [e]
    refine ⟨?_, fun a ha lt z => ?_⟩
    · obtain ⟨a, ha, ea⟩ := (h.grp g hg).ne (by omega)
      exact ⟨a, (h.mem a).mp ⟨g, hg, ha⟩, by rw [ea, e]⟩
    · obtain ⟨g', hg', ha'⟩ := (h.mem a).mpr ha
      have s := (h.grp g' hg').sub a ha'
      obtain ⟨i, hi, ei⟩ := List.getElem_of_mem hg
      obtain ⟨j, hj, ej⟩ := List.getElem_of_mem hg'
      have pw := List.pairwise_iff_getElem.mp h.sep
      rcases Nat.lt_trichotomy i j with c | c | c
      · have := pw i j hi hj c
        rw [ei, ej] at this
        unfold Sep at this
        omega
      · subst c
        have : g = g' := by rw [← ei, ← ej]
        subst this
        omega
      · have := pw j i hj hi c
        rw [ei, ej] at this
        unfold Sep at this
        omega
  · rintro ⟨⟨a, ha, ea⟩, nt⟩
    obtain ⟨g, hg, hag⟩ := (h.mem a).mpr ha
    have s := (h.grp g hg).sub a hag
    rw [ea] at s
    have gle := (h.grp g hg).le
    rcases Int.lt_or_le g.1.1 g.1.2 with c | c
    · exfalso
      rcases Int.lt_or_le p g.1.2 with z | z
      · obtain ⟨b, hb, z1, z2⟩ := (h.grp g hg).cell p s.1 z
        exact nt b ((h.mem b).mp ⟨g, hg, hb⟩) (by omega) ⟨z1, by omega⟩
      · obtain ⟨b, hb, z1, z2⟩ := (h.grp g hg).cell (p - 1) (by have := s.2; omega) (by have := s.2; omega)
        exact nt b ((h.mem b).mp ⟨g, hg, hb⟩) (by omega) ⟨by omega, by omega⟩
    · refine List.mem_map.mpr ⟨g, hg, Prod.ext ?_ ?_⟩
      · have a1 := s.1
        have a2 := s.2
        show g.1.1 = p
        have a1 : g.1.1 ≤ p := a1
        have a2 : p ≤ g.1.2 := a2
        omega
      · have a1 : g.1.1 ≤ p := s.1
        have a2 : p ≤ g.1.2 := s.2
        show g.1.2 = p
        omega
/-- whose picks are those of a group: all picks with signs that lie within it -/
theorem Gs.whose {g : Iv × List α} (hg : g ∈ R) {a : α} (ha : a ∈ T) (lt : (f a).1 < (f a).2) : a ∈ g.2 ↔ g.1.1 ≤ (f a).1 ∧ (f a).2 ≤ g.1.2 ∧ a ∈ g.2 := ⟨fun z => ⟨((h.grp g hg).sub a z).1, ((h.grp g hg).sub a z).2, z⟩, fun z => z.2.2⟩
theorem Gs.within {g : Iv × List α} (hg : g ∈ R) {a : α} (ha : a ∈ T) (lt : (f a).1 < (f a).2) (w : g.1.1 ≤ (f a).1 ∧ (f a).2 ≤ g.1.2) : a ∈ g.2 := by
  obtain ⟨g', hg', hag⟩ := (h.mem a).mpr ha
  have s := (h.grp g' hg').sub a hag
  have := h.eq hg hg' (x := (f a).1) (by omega) (by omega) (by omega) (by omega)
  rw [this]
  exact hag
end
/-! ### the ends of stretches, and the law's runs -/
def cov (st : List Iv) (p q : Int) : Bool := st.any fun s => decide (s.1 ≤ p) && decide (q ≤ s.2)
def wth (st : List Iv) (p : Int) : Bool := st.any fun s => decide (s.1 < p) && decide (p < s.2)
theorem cov_iff {st : List Iv} {p q : Int} : cov st p q = true ↔ ∃ s ∈ st, s.1 ≤ p ∧ q ≤ s.2 := by
  unfold cov
  rw [List.any_eq_true]
  refine exists_congr fun s => and_congr_right fun _ => ?_
  rw [Bool.and_eq_true, decide_eq_true_iff, decide_eq_true_iff]
theorem wth_iff {st : List Iv} {p : Int} : wth st p = true ↔ inn st p := by
  unfold wth inn
  rw [List.any_eq_true]
  refine exists_congr fun s => and_congr_right fun _ => ?_
  rw [Bool.and_eq_true, decide_eq_true_iff, decide_eq_true_iff]
section
variable {st : List Iv}
theorem seg_cell {p q : Int} (h : ∀ s ∈ st, (s.1 ≤ p ∨ q ≤ s.1) ∧ (s.2 ≤ p ∨ q ≤ s.2)) {x : Int} (h1 : p ≤ x) (h2 : x < q) : cell st x ↔ cov st p q = true := by
  rw [cov_iff]
  constructor
  · rintro ⟨s, hs, z⟩
    have := h s hs
    exact ⟨s, hs, by omega⟩
  · rintro ⟨s, hs, z⟩
    exact ⟨s, hs, by omega⟩
theorem seg_inn {p q : Int} (h : ∀ s ∈ st, (s.1 ≤ p ∨ q ≤ s.1) ∧ (s.2 ≤ p ∨ q ≤ s.2)) {x : Int} (h1 : p < x) (h2 : x < q) : inn st x ↔ cov st p q = true := by
  rw [cov_iff]
  constructor
  · rintro ⟨s, hs, z⟩
    have := h s hs
    exact ⟨s, hs, by omega⟩
  · rintro ⟨s, hs, z⟩
    exact ⟨s, hs, by omega⟩
theorem ends_sp {I : Int → Prop} (hI : ∀ p, I p → cell st p ∧ cell st (p - 1)) (hS : ∀ p q, (∀ s ∈ st, (s.1 ≤ p ∨ q ≤ s.1) ∧ (s.2 ≤ p ∨ q ≤ s.2)) → ∀ x, p < x → x < q → (I x ↔ cov st p q = true)) :
    ∀ (rest : List Int) (p : Int), (p :: rest).Pairwise (· < ·) → (∀ s ∈ st, (s.1 ≤ p ∨ s.1 ∈ rest) ∧ (s.2 ≤ p ∨ s.2 ∈ rest)) → Sp (cov st) (cell st) I (p :: rest)
  | [], p, _, h => by
    have no : ∀ x, p ≤ x → ¬ cell st x := fun x hx ⟨s, hs, z⟩ => by
      rcases (h s hs).2 with y | y
      · omega
      · cases y
    exact .one no fun x hx z => no x (by omega) (hI x z).1
  | q :: rest, p, pw, h => by
    obtain ⟨p1, p2⟩ := List.pairwise_cons.mp pw
    have pq := p1 q (List.mem_cons_self ..)
    obtain ⟨q1, _⟩ := List.pairwise_cons.mp p2
    have up : ∀ v, v ∈ q :: rest → q ≤ v := fun v hv => by
      rcases List.mem_cons.mp hv with rfl | hv
      · exact Int.le_refl _
      · have := q1 v hv; omega
    have gap : ∀ s ∈ st, (s.1 ≤ p ∨ q ≤ s.1) ∧ (s.2 ≤ p ∨ q ≤ s.2) := fun s hs => ⟨(h s hs).1.imp id (up _), (h s hs).2.imp id (up _)⟩
    refine .cons pq (fun x h1 h2 => seg_cell gap h1 h2) (hS p q gap) (ends_sp hI hS rest q p2 fun s hs => ?_)
    have k : ∀ v, v ≤ p ∨ v ∈ q :: rest → v ≤ q ∨ v ∈ rest := fun v hv => by
      rcases hv with z | z
      · exact .inl (by omega)
      · rcases List.mem_cons.mp z with rfl | z
        · exact .inl (Int.le_refl _)
        · exact .inr z
    exact ⟨k _ (h s hs).1, k _ (h s hs).2⟩
/-- the law's runs of stretches with signs: parted or not -/
def runs (st : List Iv) (parted : Bool) (ends : List Int) : List Iv := go (fun p => !parted || wth st p) (cov st) ends none
/-- a row of ends: in order, each once, all of them and nothing else -/
structure Ends (st : List Iv) (l : List Int) : Prop where
  pw : l.Pairwise (· < ·)
  mem : ∀ v, v ∈ l ↔ ∃ s ∈ st, v = s.1 ∨ v = s.2
theorem runs_parted (ne : ∀ s ∈ st, s.1 < s.2) {l : List Int} (h : Ends st l) : Chn (runs st true l) ∧ (∀ x, cell (runs st true l) x ↔ cell st x) ∧ ∀ x, inn (runs st true l) x ↔ inn st x := by
  have cI : ∀ p, inn st p → cell st p ∧ cell st (p - 1) := fun p ⟨s, hs, z⟩ => ⟨⟨s, hs, by omega⟩, ⟨s, hs, by omega⟩⟩
  cases l with
  | nil =>
    have e : st = [] := by
      cases st with
      | nil => rfl
      | cons s st =>
        have := (h.mem s.1).mpr ⟨s, List.mem_cons_self .., .inl rfl⟩
        cases this
    rw [e]
    exact ⟨⟨fun r hr => absurd hr List.not_mem_nil, List.Pairwise.nil⟩, fun x => Iff.rfl, fun x => Iff.rfl⟩
  | cons p rest =>
    have low : ∀ s ∈ st, p ≤ s.1 := fun s hs => by
      rcases List.mem_cons.mp ((h.mem s.1).mpr ⟨s, hs, .inl rfl⟩) with z | z
      · omega
      · have := (List.pairwise_cons.mp h.pw).1 _ z; omega
    have sp := ends_sp cI (fun p q g x h1 h2 => seg_inn g h1 h2) rest p h.pw fun s hs => by
      have k : ∀ v, v ∈ p :: rest → v ≤ p ∨ v ∈ rest := fun v hv => by
        rcases List.mem_cons.mp hv with rfl | z
        · exact .inl (Int.le_refl _)
        · exact .inr z
      exact ⟨k _ ((h.mem _).mpr ⟨s, hs, .inl rfl⟩), k _ ((h.mem _).mpr ⟨s, hs, .inr rfl⟩)⟩
    obtain ⟨k1, _, k3, k4⟩ := go_ok (J := fun p => !true || wth st p) cI (fun q _ _ => by
      show inn st q ↔ (!true || wth st q) = true
      rw [← wth_iff]
      simp) sp none (fun _ z => nomatch z) (fun _ ⟨s, hs, z⟩ => by have := low s hs; omega)
    refine ⟨k1, fun x => ?_, fun x => ?_⟩
    · rw [show cell (runs st true (p :: rest)) x ↔ _ from k3 x]
      constructor
      · rintro (⟨_, z, _⟩ | z)
        · cases z
        · exact z.2
      · intro z
        obtain ⟨s, hs, y⟩ := id z
        exact .inr ⟨by have := low s hs; omega, z⟩
    · rw [show inn (runs st true (p :: rest)) x ↔ _ from k4 x]
      constructor
      · rintro (⟨_, z, _⟩ | z)
        · cases z
        · exact z.2
      · intro z
        obtain ⟨s, hs, y⟩ := id z
        exact .inr ⟨by have := low s hs; omega, z⟩
theorem runs_whole (ne : ∀ s ∈ st, s.1 < s.2) {l : List Int} (h : Ends st l) : Chn (runs st false l) ∧ (∀ x, cell (runs st false l) x ↔ cell st x) ∧ ∀ x, inn (runs st false l) x ↔ cell st x ∧ cell st (x - 1) := by
  have cI : ∀ p, (cell st p ∧ cell st (p - 1)) → cell st p ∧ cell st (p - 1) := fun p z => z
  cases l with
  | nil =>
    have e : st = [] := by
      cases st with
      | nil => rfl
      | cons s st =>
        have := (h.mem s.1).mpr ⟨s, List.mem_cons_self .., .inl rfl⟩
        cases this
    rw [e]
    exact ⟨⟨fun r hr => absurd hr List.not_mem_nil, List.Pairwise.nil⟩, fun x => Iff.rfl, fun x => ⟨fun z => absurd z inn_nil, fun z => absurd z.1 cell_nil⟩⟩
  | cons p rest =>
    have low : ∀ s ∈ st, p ≤ s.1 := fun s hs => by
      rcases List.mem_cons.mp ((h.mem s.1).mpr ⟨s, hs, .inl rfl⟩) with z | z
      · omega
      · have := (List.pairwise_cons.mp h.pw).1 _ z; omega
    have sp := ends_sp (I := fun x => cell st x ∧ cell st (x - 1)) cI (fun p q g x h1 h2 => by
      rw [seg_cell g (by omega : p ≤ x) h2, seg_cell g (by omega : p ≤ x - 1) (by omega)]
      exact ⟨fun z => z.1, fun z => ⟨z, z⟩⟩) rest p h.pw fun s hs => by
      have k : ∀ v, v ∈ p :: rest → v ≤ p ∨ v ∈ rest := fun v hv => by
        rcases List.mem_cons.mp hv with rfl | z
        · exact .inl (Int.le_refl _)
        · exact .inr z
      exact ⟨k _ ((h.mem _).mpr ⟨s, hs, .inl rfl⟩), k _ ((h.mem _).mpr ⟨s, hs, .inr rfl⟩)⟩
    obtain ⟨k1, _, k3, k4⟩ := go_ok (J := fun p => !false || wth st p) (I := fun x => cell st x ∧ cell st (x - 1)) cI (fun q a b => ⟨fun _ => rfl, fun _ => ⟨a, b⟩⟩) sp none (fun _ z => nomatch z) (fun _ ⟨_, s, hs, z⟩ => by have := low s hs; omega)
    refine ⟨k1, fun x => ?_, fun x => ?_⟩
    · rw [show cell (runs st false (p :: rest)) x ↔ _ from k3 x]
      constructor
      · rintro (⟨_, z, _⟩ | z)
        · cases z
        · exact z.2
      · intro z
        obtain ⟨s, hs, y⟩ := id z
        exact .inr ⟨by have := low s hs; omega, z⟩
    · rw [show inn (runs st false (p :: rest)) x ↔ _ from k4 x]
      constructor
      · rintro (⟨_, z, _⟩ | z)
        · cases z
        · exact z.2
      · intro z
        obtain ⟨s, hs, y⟩ := id z.2
        exact .inr ⟨by have := low s hs; omega, z⟩
/-- joined stretches are the law's whole runs -/
theorem mg_runs {s : Iv} {r : List Iv} (ne : ∀ z ∈ s :: r, z.1 < z.2) (pw : (s :: r).Pairwise (fun a b => a.1 ≤ b.1)) {st : List Iv} (same : ∀ z, z ∈ st ↔ z ∈ s :: r) {l : List Int} (h : Ends st l) : mg s r = runs st false l := by
  obtain ⟨p1, p2⟩ := List.pairwise_cons.mp pw
  obtain ⟨a1, _, a3, a4⟩ := mg_ok r s (ne s (List.mem_cons_self ..)) (fun z hz => ⟨ne z (List.mem_cons_of_mem _ hz), p1 z hz⟩) p2
  obtain ⟨b1, b2, b3⟩ := runs_whole (fun z hz => ne z ((same z).mp hz)) h
  have sc : ∀ x, cell (mg s r) x ↔ cell st x := fun x => by
    rw [a3, ← cell_cons]
    unfold cell
    exact exists_congr fun z => and_congr_left fun _ => (same z).symm
  refine a1.uniq b1 (fun x => by rw [sc, b2]) fun x => ?_
  rw [a4, b3, sc, sc]
/-- settled picks with signs are the law's parted runs -/
theorem Gs.runs {α : Type} {f : α → Iv} {T : List α} {R : List (Iv × List α)} (g : Gs f T R) {st : List Iv} (same : ∀ z, z ∈ st ↔ z.1 < z.2 ∧ ∃ a ∈ T, f a = z) {l : List Int} (h : Ends st l) : ((R.map Prod.fst).filter fun r => decide (r.1 < r.2)) = Pk.runs st true l := by
  obtain ⟨b1, b2, b3⟩ := runs_parted (fun z hz => ((same z).mp hz).1) h
  refine g.chn.uniq b1 (fun x => ?_) fun x => ?_
  · rw [g.cells, b2]
    constructor
    · rintro ⟨z, hz, y⟩
      obtain ⟨a, ha, rfl⟩ := List.mem_map.mp hz
      exact ⟨f a, (same _).mpr ⟨by omega, a, ha, rfl⟩, y⟩
    · rintro ⟨z, hz, y⟩
      obtain ⟨_, a, ha, rfl⟩ := (same z).mp hz
      exact ⟨f a, List.mem_map.mpr ⟨a, ha, rfl⟩, y⟩
  · rw [g.inns, b3]
    constructor
    · rintro ⟨z, hz, y⟩
      obtain ⟨a, ha, rfl⟩ := List.mem_map.mp hz
      exact ⟨f a, (same _).mpr ⟨by omega, a, ha, rfl⟩, y⟩
    · rintro ⟨z, hz, y⟩
      obtain ⟨_, a, ha, rfl⟩ := (same z).mp hz
      exact ⟨f a, List.mem_map.mpr ⟨a, ha, rfl⟩, y⟩
end
/-! ### in order, each once -/
def SL (a b : Iv) : Prop := a.1 < b.1 ∨ (a.1 = b.1 ∧ a.2 < b.2)
theorem SL.irr {a : Iv} (h : SL a a) : False := by unfold SL at h; omega
theorem SL.asym {a b : Iv} (h : SL a b) (g : SL b a) : False := by unfold SL at h g; omega
theorem srt_uniq {β : Type} {k : β → Iv} : ∀ {R S : List β}, R.Pairwise (fun a b => SL (k a) (k b)) → S.Pairwise (fun a b => SL (k a) (k b)) → (∀ x, x ∈ R ↔ x ∈ S) → R = S
  | [], S, _, _, h => by
    cases S with
    | nil => rfl
    | cons s S => exact absurd ((h s).mpr (List.mem_cons_self ..)) List.not_mem_nil
  | r :: R, [], _, _, h => absurd ((h r).mp (List.mem_cons_self ..)) List.not_mem_nil
  | r :: R, s :: S, hR, hS, h => by
    obtain ⟨r1, r2⟩ := List.pairwise_cons.mp hR
    obtain ⟨s1, s2⟩ := List.pairwise_cons.mp hS
    have e : r = s := by
      rcases List.mem_cons.mp ((h r).mp (List.mem_cons_self ..)) with z | z
      · exact z
      · rcases List.mem_cons.mp ((h s).mpr (List.mem_cons_self ..)) with y | y
        · exact y.symm
        · exact (SL.asym (s1 r z) (r1 s y)).elim
    subst e
    refine congrArg (r :: ·) (srt_uniq r2 s2 fun x => ⟨fun z => ?_, fun z => ?_⟩)
    · rcases List.mem_cons.mp ((h x).mp (List.mem_cons_of_mem _ z)) with y | y
      · exact (SL.irr (by have := r1 x z; rw [y] at this; exact this)).elim
      · exact y
    · rcases List.mem_cons.mp ((h x).mpr (List.mem_cons_of_mem _ z)) with y | y
      · exact (SL.irr (by have := s1 x z; rw [y] at this; exact this)).elim
      · exact y
section
variable {α : Type} {f : α → Iv} {T : List α} {R : List (Iv × List α)} (h : Gs f T R)
include h
theorem Gs.srt : R.Pairwise (fun a b => SL a.1 b.1) := by
  refine List.Pairwise.imp_of_mem (fun {a b} ha hb z => ?_) h.sep
  have := (h.grp a ha).le
  unfold Sep at z
  unfold SL
  omega
/-- the stretches of the groups, told by the picks alone -/
theorem Gs.iv (le : ∀ a ∈ T, (f a).1 ≤ (f a).2) {T' : List α} {R' : List (Iv × List α)} (h' : Gs f T' R') (same : ∀ a, a ∈ T ↔ a ∈ T') : R.map Prod.fst = R'.map Prod.fst := by
  have le' : ∀ a ∈ T', (f a).1 ≤ (f a).2 := fun a ha => le a ((same a).mpr ha)
  have e := h.chn.uniq h'.chn (fun x => by
    rw [h.cells, h'.cells]
    unfold cell
    exact exists_congr fun z => and_congr_left fun _ => by rw [List.mem_map, List.mem_map]; exact exists_congr fun a => and_congr_left fun _ => same a) fun x => by
    rw [h.inns, h'.inns]
    unfold inn
    exact exists_congr fun z => and_congr_left fun _ => by rw [List.mem_map, List.mem_map]; exact exists_congr fun a => and_congr_left fun _ => same a
  refine srt_uniq (k := id) (List.pairwise_map.mpr h.srt) (List.pairwise_map.mpr h'.srt) fun x => ?_
  have low : ∀ {R : List (Iv × List α)} {T : List α}, Gs f T R → ∀ {x : Iv}, x ∈ R.map Prod.fst → x.1 ≤ x.2 := fun g x hx => by
    obtain ⟨y, hy, rfl⟩ := List.mem_map.mp hx
    exact (g.grp y hy).le
  have key : x.1 < x.2 → (x ∈ R.map Prod.fst ↔ x ∈ R'.map Prod.fst) := fun lt => by
    have m : ∀ {l : List Iv}, x ∈ l.filter (fun r => decide (r.1 < r.2)) ↔ x ∈ l := fun {l} => by
      rw [List.mem_filter]
      exact ⟨fun z => z.1, fun z => ⟨z, decide_eq_true lt⟩⟩
    rw [← m (l := R.map Prod.fst), e, m]
  have car : ∀ p : Int, (p, p) ∈ R.map Prod.fst ↔ (p, p) ∈ R'.map Prod.fst := fun p => by
    rw [h.carets le, h'.carets le']
    refine and_congr (exists_congr fun a => and_congr_left fun _ => same a) ?_
    exact forall_congr' fun a => by rw [same a]
  rcases Int.lt_or_le x.1 x.2 with c | c
  · exact key c
  · constructor
    · intro hx
      have := low h hx
      have ex : x = (x.1, x.1) := Prod.ext rfl (by show x.2 = x.1; omega)
      rw [ex] at hx ⊢
      exact (car x.1).mp hx
    · intro hx
      have := low h' hx
      have ex : x = (x.1, x.1) := Prod.ext rfl (by show x.2 = x.1; omega)
      rw [ex] at hx ⊢
      exact (car x.1).mpr hx
end
/-! ### picks -/
def lh (a : Iv) : Iv := (min a.1 a.2, max a.1 a.2)
theorem lh_le (a : Iv) : (lh a).1 ≤ (lh a).2 := by show min a.1 a.2 ≤ max a.1 a.2; omega
/-- the pick of a group -/
def pk (g : Iv × List Iv) : Iv := if g.2.all fun a => decide (a.2 ≤ a.1) then (g.1.2, g.1.1) else g.1
/-- the pick of a stretch, by all picks within it -/
def pkT (T : List Iv) (r : Iv) : Iv := if (T.filter fun a => decide (a.1 ≠ a.2) && (decide (r.1 ≤ (lh a).1) && decide ((lh a).2 ≤ r.2))).all fun a => decide (a.2 < a.1) then (r.2, r.1) else r
theorem pk_pkT {T : List Iv} {R : List (Iv × List Iv)} (h : Gs lh T R) {g : Iv × List Iv} (hg : g ∈ R) : pk g = pkT T g.1 := by
  unfold pk pkT
  have gg := h.grp g hg
  have e : (g.2.all fun a => decide (a.2 ≤ a.1)) = ((T.filter fun a => decide (a.1 ≠ a.2) && (decide (g.1.1 ≤ (lh a).1) && decide ((lh a).2 ≤ g.1.2))).all fun a => decide (a.2 < a.1)) := by
    rw [Bool.eq_iff_iff, List.all_eq_true, List.all_eq_true]
    constructor
    · intro z a ha
      obtain ⟨aT, hw⟩ := List.mem_filter.mp ha
      rw [Bool.and_eq_true, Bool.and_eq_true, decide_eq_true_iff, decide_eq_true_iff, decide_eq_true_iff] at hw
      have lt : (lh a).1 < (lh a).2 := by show min a.1 a.2 < max a.1 a.2; have := hw.1; omega
      have := of_decide_eq_true (z a (h.within hg aT lt hw.2))
      exact decide_eq_true (by have := hw.1; omega)
    · intro z a ha
      by_cases c : a.1 = a.2
      · exact decide_eq_true (by omega)
      · have s := gg.sub a ha
        have := of_decide_eq_true (z a (List.mem_filter.mpr ⟨(h.mem a).mp ⟨g, hg, ha⟩, by rw [decide_eq_true c, decide_eq_true s.1, decide_eq_true s.2]; rfl⟩))
        exact decide_eq_true (by omega)
  rw [e]
/-- settled picks are told by the picks alone, in whatever order -/
theorem settled_same {T T' : List Iv} {R R' : List (Iv × List Iv)} (h : Gs lh T R) (h' : Gs lh T' R') (same : ∀ a, a ∈ T ↔ a ∈ T') : R.map pk = R'.map pk := by
  have e := h.iv (fun a _ => lh_le a) h' same
  have a1 : R.map pk = (R.map Prod.fst).map (pkT T) := by
    rw [List.map_map]
    exact List.map_congr_left fun g hg => pk_pkT h hg
  have a2 : R'.map pk = (R'.map Prod.fst).map (pkT T') := by
    rw [List.map_map]
    exact List.map_congr_left fun g hg => pk_pkT h' hg
  rw [a1, a2, e]
  refine List.map_congr_left fun r _ => ?_
  unfold pkT
  have : ((T.filter fun a => decide (a.1 ≠ a.2) && (decide (r.1 ≤ (lh a).1) && decide ((lh a).2 ≤ r.2))).all fun a => decide (a.2 < a.1)) = ((T'.filter fun a => decide (a.1 ≠ a.2) && (decide (r.1 ≤ (lh a).1) && decide ((lh a).2 ≤ r.2))).all fun a => decide (a.2 < a.1)) := by
    rw [Bool.eq_iff_iff, List.all_eq_true, List.all_eq_true]
    refine forall_congr' fun a => ?_
    rw [List.mem_filter, List.mem_filter, same a]
  rw [this]
/-- picks that are settled stay as they are -/
theorem sg_stay {β : Type} {f : β → Iv} : ∀ (r : List β) (a : β), (a :: r).Pairwise (fun x y => Sep (f x) (f y)) → sg f (f a, [a]) r = (a :: r).map fun x => (f x, [x])
  | [], a, _ => rfl
  | b :: r, a, h => by
    obtain ⟨h1, h2⟩ := List.pairwise_cons.mp h
    have s := h1 b (List.mem_cons_self ..)
    have n : ¬ Jn (f a) (f b) := by
      unfold Sep at s
      unfold Jn
      omega
    show (if Jn (f a) (f b) then _ else _) = _
    rw [if_neg n, sg_stay r b h2]
    rfl
theorem pk_one (a : Iv) : pk (lh a, [a]) = a := by
  unfold pk
  have e : ([a].all fun a => decide (a.2 ≤ a.1)) = decide (a.2 ≤ a.1) := by simp
  show (if ([a].all fun a => decide (a.2 ≤ a.1)) = true then ((lh a).2, (lh a).1) else lh a) = a
  rw [e]
  by_cases c : a.2 ≤ a.1
  · rw [if_pos (decide_eq_true c)]
    exact Prod.ext (by show max a.1 a.2 = a.1; omega) (by show min a.1 a.2 = a.2; omega)
  · rw [if_neg (by simpa using c)]
    exact Prod.ext (by show min a.1 a.2 = a.1; omega) (by show max a.1 a.2 = a.2; omega)
theorem lh_pk {g : Iv × List Iv} (h : g.1.1 ≤ g.1.2) : lh (pk g) = g.1 := by
  unfold pk
  split
  · exact Prod.ext (by show min g.1.2 g.1.1 = g.1.1; omega) (by show max g.1.2 g.1.1 = g.1.2; omega)
  · exact Prod.ext (by show min g.1.1 g.1.2 = g.1.1; omega) (by show max g.1.1 g.1.2 = g.1.2; omega)
theorem Gs.sepPk {T : List Iv} {R : List (Iv × List Iv)} (h : Gs lh T R) : (R.map pk).Pairwise (fun x y => Sep (lh x) (lh y)) := by
  rw [List.pairwise_map]
  refine List.Pairwise.imp_of_mem (fun {a b} ha hb z => ?_) h.sep
  rw [lh_pk (h.grp a ha).le, lh_pk (h.grp b hb).le]
  exact z
end Pk

/-! pairs of numbers; min and max of a pair -/
namespace Dk
open PySem PySem.Spec PyProof.Rows L2 PySem.SeqAt PySem.W
/-! min, max of a tuple of two numbers -/
section
variable {prog : Program} {w : World} {A : Around} {E : Value → Shared → Prop} {s : Shared}
theorem min_pair_at {l : Addr} {vs : Array Value} {as : List Addr} {a b : Int} {Q : Value → Shared → Prop} (hh : A.handled = none) (hl : s.heap.IsTuple l vs) (hr : ReadsAll s.heap vs.toList [.int a, .int b] as) (hu : A.units + 10 < cLine)
    (h : ∀ v h' tk, vs[if dataLt (.int b) (.int a) = true then 1 else 0]? = some v → (∀ b o, s.heap.get? b = some o → h'.get? b = some o) → Q v { s with heap := h', toks := tk }) :
    wpAny (model prog w) A (call (.builtin "min") [.ref l]) Q E s := by
  have hn : vs.size = 2 := readsAll_len hr
  have al : AlikeAll [PyData.int a, PyData.int b] := ⟨fun x hx y hy => by simp at hx hy; rcases hx with rfl | rfl <;> rcases hy with rfl | rfl <;> rfl, fun x hx => by simp at hx; rcases hx with rfl | rfl <;> exact fun z => nomatch z⟩
  refine call_min_walkH (iter_tupleW (A := A.in1) hh hl fun s₂ e W st hfp hw hk => ?_)
  refine ⟨_, _, _, _, _, _, _, s.heap, _, rfl, W, st, hfp, by omega, hw, hk, cmpIn_lt (A := A.in1) hr al (by show A.units + 1 + 0 < _; omega), fun v s' hP m => ?_⟩
  obtain ⟨h', tk, rfl, hk'⟩ := moved_old e rfl m
  rw [hn] at hP
  exact h v h' tk hP hk'
theorem max_pair_at {l : Addr} {vs : Array Value} {as : List Addr} {a b : Int} {Q : Value → Shared → Prop} (hh : A.handled = none) (hl : s.heap.IsTuple l vs) (hr : ReadsAll s.heap vs.toList [.int a, .int b] as) (hu : A.units + 10 < cLine)
    (h : ∀ v h' tk, vs[if dataLt (.int a) (.int b) = true then 1 else 0]? = some v → (∀ b o, s.heap.get? b = some o → h'.get? b = some o) → Q v { s with heap := h', toks := tk }) :
    wpAny (model prog w) A (call (.builtin "max") [.ref l]) Q E s := by
  have hn : vs.size = 2 := readsAll_len hr
  have al : AlikeAll [PyData.int a, PyData.int b] := ⟨fun x hx y hy => by simp at hx hy; rcases hx with rfl | rfl <;> rcases hy with rfl | rfl <;> rfl, fun x hx => by simp at hx; rcases hx with rfl | rfl <;> exact fun z => nomatch z⟩
  refine call_max_walkH (iter_tupleW (A := A.in1) hh hl fun s₂ e W st hfp hw hk => ?_)
  refine ⟨_, _, _, _, _, _, _, s.heap, _, rfl, W, st, hfp, by omega, hw, hk, cmpIn_gt (A := A.in1) hr al (by show A.units + 1 + 0 < _; omega), fun v s' hP m => ?_⟩
  obtain ⟨h', tk, rfl, hk'⟩ := moved_old e rfl m
  rw [hn] at hP
  exact h v h' tk hP hk'
end
def rMinP (K : PySem.W.Frag) : List V → Hp → VK → Prop := fun vs H Q => ∃ (p : Addr) (a b : Int), vs = [.ref p] ∧ SqT K H p [.int a, .int b] ∧ Q (.int (min a b)) H
def rMaxP (K : PySem.W.Frag) : List V → Hp → VK → Prop := fun vs H Q => ∃ (p : Addr) (a b : Int), vs = [.ref p] ∧ SqT K H p [.int a, .int b] ∧ Q (.int (max a b)) H
theorem call_minP {X : Cx} (hc : X.calm = true) (hu : X.A.units + 65 < cLine) : CallR X (.builtin "min") (rMinP X.K) := by
  intro pins s σ H vs us Q I r h
  obtain ⟨p, a, b, rfl, hp, q⟩ := h
  rw [Vals.ref1 r]
  obtain ⟨its, rv, pt, _⟩ := I.tuple hp
  obtain ⟨as, hr⟩ : ∃ as, ReadsAll s.heap its [.int a, .int b] as := dpall_reads I (.cons (.int a) (.cons (.int b) .nil)) rv
  refine min_pair_at (I.ok.hd hc) (show s.heap.IsTuple p its.toArray from pt) (by simpa using hr) (by omega) fun v h' tk hv k => ?_
  obtain ⟨x, hx, rx⟩ := Zp.vals_at rv (by simpa using hv)
  refine ⟨x, H, I.kept k, rx, ?_⟩
  rw [PySem.W.dataLt_int] at hx
  by_cases c : b < a
  · rw [if_pos (decide_eq_true c)] at hx
    cases hx
    rw [show min a b = b by omega] at q
    exact q
  · rw [if_neg (by simpa using c)] at hx
    cases hx
    rw [show min a b = a by omega] at q
    exact q
theorem call_maxP {X : Cx} (hc : X.calm = true) (hu : X.A.units + 65 < cLine) : CallR X (.builtin "max") (rMaxP X.K) := by
  intro pins s σ H vs us Q I r h
  obtain ⟨p, a, b, rfl, hp, q⟩ := h
  rw [Vals.ref1 r]
  obtain ⟨its, rv, pt, _⟩ := I.tuple hp
  obtain ⟨as, hr⟩ : ∃ as, ReadsAll s.heap its [.int a, .int b] as := dpall_reads I (.cons (.int a) (.cons (.int b) .nil)) rv
  refine max_pair_at (I.ok.hd hc) (show s.heap.IsTuple p its.toArray from pt) (by simpa using hr) (by omega) fun v h' tk hv k => ?_
  obtain ⟨x, hx, rx⟩ := Zp.vals_at rv (by simpa using hv)
  refine ⟨x, H, I.kept k, rx, ?_⟩
  rw [PySem.W.dataLt_int] at hx
  by_cases c : a < b
  · rw [if_pos (decide_eq_true c)] at hx
    cases hx
    rw [show max a b = b by omega] at q
    exact q
  · rw [if_neg (by simpa using c)] at hx
    cases hx
    rw [show max a b = a by omega] at q
    exact q
theorem k_minP {X : Cx} {K : PySem.W.Frag} (h : X.K = K) (hc : X.calm = true) (hu : X.A.units + 65 < cLine) : CallR X (.builtin "min") (rMinP K) := h ▸ call_minP hc hu
theorem k_maxP {X : Cx} {K : PySem.W.Frag} (h : X.K = K) (hc : X.calm = true) (hu : X.A.units + 65 < cLine) : CallR X (.builtin "max") (rMaxP K) := h ▸ call_maxP hc hu
theorem r_continue {σ : L2.St} {H : Hp} {D : Ends} (q : D.ct σ H) : tCont D σ H := q
/-! pairs -/
abbrev Iv := Pk.Iv
def PrV (H : Hp) (v : V) (x : Iv) : Prop := ∃ p : Addr, v = .ref p ∧ H p = some (.tup [.int x.1, .int x.2])
instance : Imm PrV := ⟨fun t h => h.imp fun p z => ⟨z.1, t _ _ z.2⟩⟩
abbrev PrL (H : Hp) : List V → List Iv → Prop := P2 (PrV H)
theorem prl_imm {H H' : Hp} {xs : List V} {l : List Iv} (t : Tk H H') (h : PrL H xs l) : PrL H' xs l := p2_imm t h
section
variable {K : PySem.W.Frag} {σ : L2.St} {H H' : Hp} {Q : VK} {v : V} {x : Iv} {N : L2.St → Hp → Prop} {t : TGs}
theorem r_minP (h : PrV H v x) (q : Q (.int (min x.1 x.2)) H) : rMinP K [v] H Q := by
  obtain ⟨p, rfl, hp⟩ := h
  exact ⟨p, _, _, rfl, sqT hp, q⟩
theorem r_maxP (h : PrV H v x) (q : Q (.int (max x.1 x.2)) H) : rMaxP K [v] H Q := by
  obtain ⟨p, rfl, hp⟩ := h
  exact ⟨p, _, _, rfl, sqT hp, q⟩
theorem r_gPr (h : PrV H v x) (k : t [.int x.1, .int x.2] σ H N) : gTup K 2 t v σ H N := by
  obtain ⟨p, rfl, hp⟩ := h
  exact r_gtup (sqT hp) rfl k
theorem r_ixPr0 (h : PrV H v x) (q : Q (.int x.1) H) : rIx K v (.int 0) H Q := by
  obtain ⟨p, rfl, hp⟩ := h
  exact r_ixT (sqT hp) (atI_nat (j := 0) rfl) q
theorem r_ixPr1 (h : PrV H v x) (q : Q (.int x.2) H) : rIx K v (.int 1) H Q := by
  obtain ⟨p, rfl, hp⟩ := h
  exact r_ixT (sqT hp) (atI_nat (j := 1) rfl) q
/-- a new pair: H2 is the heap with it -/
theorem r_mkPr {a b : Int} {P : V → Hp → Prop} (q : ∀ p H2, H p = none → H2 = upd H p (.tup [.int a, .int b]) → Ex H H2 → PrV H2 (.ref p) (a, b) → P (.ref p) H2) : [V.int a, V.int b].length ≤ sizeLine ∧ ∀ p, H p = none → P (.ref p) (upd H p (.tup [V.int a, V.int b])) :=
  r_small nsz fun p hp => q p _ hp rfl (Same.new (Same.refl H) hp) ⟨p, rfl, upd_same⟩
end
theorem newPr {H : Hp} {p : Addr} (hp : H p = none) (a b : Int) : ∃ H2, H2 = upd H p (.tup [.int a, .int b]) ∧ Ex H H2 ∧ PrV H2 (.ref p) (a, b) := ⟨_, rfl, Same.new (Same.refl H) hp, p, rfl, upd_same⟩
/-! sorted of pairs -/
theorem pk_key (H : Hp) : ∃ k : V → Int × Int, ∀ v x, PrV H v x → k v = x := by
  refine ⟨fun v => match v with
    | .ref p => (match H p with
      | some (.tup [.int a, .int b]) => (a, b)
      | _ => (0, 0))
    | _ => (0, 0), fun v x h => ?_⟩
  obtain ⟨p, rfl, hp⟩ := h
  show (match H p with
      | some (.tup [.int a, .int b]) => (a, b)
      | _ => (0, 0)) = x
  rw [hp]
/-- sorted(list of pairs): a new list, in order, with the same pairs -/
theorem r_sortPr {K : PySem.W.Frag} {H : Hp} {Q : VK} {p : Addr} {xs : List V} {l : List Iv} (hp : SqL K H p xs) (h : PrL H xs l)
    (q : ∀ ys m d, PrL H ys m → m.Pairwise Pk.Lx → m.Perm l → H d = none → Q (.ref d) (upd H d (.lst ys))) : rSortedPO K [.ref p] H Q := by
  obtain ⟨k, hk⟩ := pk_key H
  refine ⟨p, xs, k, rfl, hp, fun x hx => ?_, fun ys d h1 h2 hd => ?_⟩
  · obtain ⟨i, hi⟩ := List.mem_iff_getElem?.mp hx
    obtain ⟨y, hy, hr⟩ := h.get hi
    obtain ⟨t, rfl, ht⟩ := id hr
    have e := hk _ _ hr
    exact ⟨t, rfl, by rw [e]; exact ht⟩
  · have all : ∀ v ∈ ys, PrV H v (k v) := fun v hv => by
      obtain ⟨i, hi⟩ := List.mem_iff_getElem?.mp (h2.perm.mem_iff.mp hv)
      obtain ⟨y, hy, hr⟩ := h.get hi
      rw [hk _ _ hr]
      exact hr
    have e : l = xs.map k := by
      clear q h2 hp
      induction h with
      | nil => rfl
      | cons h t ih => rw [List.map_cons, hk _ _ h, ← ih]
    refine q ys (ys.map k) d ?_ ?_ ?_ hd
    · clear h1 h2
      induction ys with
      | nil => exact .nil
      | cons v r ih => exact .cons (all v (List.mem_cons_self ..)) (ih fun u hu => all u (List.mem_cons_of_mem _ hu))
    · refine List.pairwise_map.mpr (h1.imp fun {a b} g => ?_)
      have := SrtO.lexB_no.mp g
      unfold Pk.Lx
      omega
    · rw [e]
      exact h2.perm.map k
theorem r_bm0 {K : PySem.W.Frag} {T : String} {r : V → List V → Hp → VK → Prop} {to : TE} {σ : L2.St} {H : Hp} {Q : VK} (h : to σ H fun x H1 => tyV K T x H1 ∧ r x [] H1 Q) : tBM0 K T r to σ H Q := h
/-- xs.pop() -/
theorem r_popE {H : Hp} {Q : VK} {p : Addr} {xs : List V} {y : V} (h : H p = some (.lst (xs ++ [y]))) (q : Q y (upd H p (.lst xs))) : rPop (.ref p) [] H Q :=
  ⟨p, _, y, rfl, rfl, h, by rw [List.length_append, List.length_singleton, Nat.add_sub_cancel, List.getElem?_append_right (Nat.le_refl _), Nat.sub_self]; rfl, by rw [List.dropLast_concat]; exact q⟩
/-- over zip(tuple, list) of one length -/
theorem l_ZTL {K : PySem.W.Frag} {a b : Addr} {xs ys : List V} {g : TG} {tb : TS} {D : Ends} {σ : L2.St} {H : Hp} (hx0 : SqT K H a xs) (hy0 : SqL K H b ys) (hl : xs.length = ys.length) (Pv : Nat → L2.St → Hp → Prop) (p0 : Pv 0 σ H)
    (hk : ∀ i σ H, Pv i σ H → SqT K H a xs ∧ SqL K H b ys)
    (ht : ∀ i x y σ H p, xs[i]? = some x → ys[i]? = some y → Pv i σ H → H p = none → g (.ref p) σ (upd H p (.tup [x, y])) fun σ2 H2 => tb { D with nx := Pv (i + 1), ct := Pv (i + 1), bk := D.nx } σ2 H2)
    (hd : ∀ σ H, Pv xs.length σ H → D.nx σ H) :
    ∃ k1 k2 : Zp.Kd, [V.ref a, V.ref b] = [k1.v, k2.v] ∧ (∃ xs, k1.has K H xs) ∧ (∃ ys, k2.has K H ys) ∧ LoopW (Zp.ItzK K k1 k2) g tb D σ H := by
  refine ⟨.t a, .l b, rfl, ⟨xs, hx0⟩, ⟨ys, hy0⟩, for_it (Zp.walk_zipK (xs := xs) (ys := ys) (by first | rfl | exact hl)) Pv p0 (fun i σ H _ p => hk i σ H p) (fun i v σ H H' hi p yy => ?_) fun σ H p => hd σ H ?_⟩
  · obtain ⟨T, x, y, rfl, hT, rfl, ha, hb⟩ := yy
    exact ht i x y σ H T ha hb p hT
  · rw [hl, Nat.min_self] at p
    rw [hl]
    exact p
/-- sorted(set(xs)) -/
theorem r_setSort {K : PySem.W.Frag} {w : World} {σ : L2.St} {H : Hp} {Q : VK} {C : Addr} {ns : List Int} (hC : SqL K H C (ns.map V.int)) (hl : ns.length ≤ 4000)
    (k : ∀ (m : List Int) (d : Addr) (H' : Hp), Ex H H' → m.Pairwise (· < ·) → (∀ x, x ∈ m ↔ x ∈ ns) → H' d = some (.lst (m.map V.int)) → Q (.ref d) H') : Sx.rSetL K w [V.ref C] H (fun x H1 => tNil σ H1 fun xs H2 => Sx.rSortSU w (x :: xs) H2 Q) := by
  refine ⟨C, ns, rfl, hC, hl, fun p3 c hc hp3 => ⟨p3, _, c, rfl, upd_same, by omega, fun m d hpw hmem hd => ?_⟩⟩
  exact k m d _ ((Same.new (Same.refl H) hp3).trans (Same.new (Same.refl _) hd)) hpw (fun x => by rw [hmem, decide_eq_true_iff]) upd_same
/-! a comprehension over a text -/
theorem r_lcSo {tl : TE} {g : TG} {tt : TT} {te : TE} {vs : List Nat} {σ : L2.St} {H : Hp} {Q : VK} (h : tl σ H fun x H1 => ∃ z, x = .str z ∧ ∀ D, H1 D = none → ∃ W : Nat → Nat → Hp → Prop, (∃ m, W 0 m (upd H1 D (.lst []))) ∧ ∀ i m H, W i m H →
  ((Its z).stop i H ∧ Q (.ref D) H) ∨ ((Its z).go i H ∧ ∃ Nx : Hp → Prop, (∀ H', Nx H' → ∃ m', m' < m ∧ W (i + 1) m' H') ∧ ∀ x H', (Its z).yld i H x H' → g x (wipe σ vs) H' fun σ2 H2 => wipe σ2 vs = wipe σ vs ∧ tt σ2 H2 fun b H3 =>
    if b = true then te σ2 H3 fun y H4 => ∃ acc, H4 D = some (.lst acc) ∧ acc.length < sizeLine ∧ Nx (upd H4 D (.lst (acc ++ [y]))) else Nx H3)) : tLc (iStr tl) g tt te vs σ H Q := h
theorem l_lcS {z : Str} {g : TG} {tt : TT} {te : TE} {vs : List Nat} {σ : L2.St} {H1 : Hp} {Qd : Addr → Hp → Prop} (Pv : Addr → Nat → Hp → Prop) (h0 : ∀ D, H1 D = none → Pv D 0 (upd H1 D (.lst [])))
    (hs : ∀ D (i : Nat) c H, H1 D = none → (cs z)[i]? = some c → Pv D i H → g (.str ⟨#[c]⟩) (wipe σ vs) H fun σ2 H2 => wipe σ2 vs = wipe σ vs ∧ tt σ2 H2 fun b H3 =>
      if b = true then te σ2 H3 fun y H4 => ∃ acc, H4 D = some (.lst acc) ∧ acc.length < sizeLine ∧ Pv D (i + 1) (upd H4 D (.lst (acc ++ [y]))) else Pv D (i + 1) H3) (hd : ∀ D H, H1 D = none → Pv D z.length H → Qd D H) :
    ∃ y, V.str z = .str y ∧ ∀ D, H1 D = none → ∃ W : Nat → Nat → Hp → Prop, (∃ m, W 0 m (upd H1 D (.lst []))) ∧ ∀ i m H, W i m H →
  ((Its y).stop i H ∧ Qd D H) ∨ ((Its y).go i H ∧ ∃ Nx : Hp → Prop, (∀ H', Nx H' → ∃ m', m' < m ∧ W (i + 1) m' H') ∧ ∀ x H', (Its y).yld i H x H' → g x (wipe σ vs) H' fun σ2 H2 => wipe σ2 vs = wipe σ vs ∧ tt σ2 H2 fun b H3 =>
    if b = true then te σ2 H3 fun y H4 => ∃ acc, H4 D = some (.lst acc) ∧ acc.length < sizeLine ∧ Nx (upd H4 D (.lst (acc ++ [y]))) else Nx H3) :=
  ⟨z, rfl, fun D hD => lc_it walk_str (Pv D) (h0 D hD) (fun _ _ _ _ => trivial) (fun i x H H' hi p y => by
    obtain ⟨rfl, c, hc, rfl⟩ := y
    exact hs D i c _ hD (by rw [Array.getElem?_toList]; exact hc) p) fun H p => hd D H hD p⟩
theorem exm_self {K : PySem.W.Frag} {S : Addr} (h1 : PySem.W.subIn K (.ref S) (.type "BaseException") = some true) (h2 : PySem.W.isClsIn K S = true) (h3 : PySem.W.typeIn K (.ref S) = some (.type "type")) (h4 : PySem.W.subIn K (.ref S) (.ref S) = some true) :
    PySem.W.exmOne K (.ref S) (.ref S) = some true := by
  have e1 : (PySem.W.subIn K (.ref S) (.type "BaseException") == some true) = true := by rw [h1] <;> rfl
  have e2 : ((PySem.W.clsIn K S).isSome && PySem.W.typeIn K (.ref S) == some (.type "type")) = true := by
    have h2' : (PySem.W.clsIn K S).isSome = true := h2
    rw [h2', h3] <;> rfl
  show (if (PySem.W.subIn K (.ref S) (.type "BaseException") == some true) = true then (if ((PySem.W.clsIn K S).isSome && PySem.W.typeIn K (.ref S) == some (.type "type")) = true then PySem.W.subIn K (.ref S) (.ref S) else none) else none) = some true
  rw [if_pos e1, if_pos e2]
  exact h4
/-! a flow of draws: [state, count, pool] -/
def flow (M : Int) (f p : Addr) : Box where
  A := fun x => x = f ∨ x = p
  B := fun H => p ≠ f ∧ ∃ (z k : Int) (ns : List Int), H f = some (.lst [.int z, .int k, .ref p]) ∧ H p = some (.lst (ns.map V.int)) ∧ ns.length ≤ 63 ∧ 0 ≤ z ∧ z < M
  live := fun H h x a => by
    obtain ⟨_, k, z, ns, h1, h2, _⟩ := h
    rcases a with rfl | rfl
    · exact ⟨_, h1⟩
    · exact ⟨_, h2⟩
  keep := fun H H' h e => by
    obtain ⟨n, k, z, ns, h1, h2, h3⟩ := h
    exact ⟨n, k, z, ns, e _ _ (.inl rfl) h1, e _ _ (.inr rfl) h2, h3⟩
def spDrawsF (M : Int) (K : PySem.W.Frag) : Sp := fun vs H Q _ => ∃ (a : Addr) (ns : List Int), vs = [.ref a] ∧ SqL K H a (ns.map V.int) ∧ ns.length ≤ 63 ∧ ∀ f p H', Ex H H' → H f = none → H p = none → (flow M f p).B H' → Q (.ref f) H'
def spTakeF (M : Int) : Sp := fun vs H Q _ => ∃ (f p : Addr) (n : Int), vs = [.ref f, .int n] ∧ (flow M f p).B H ∧ 0 < n ∧ n < 1000000 ∧ ∀ (v : Nat) H', (v : Int) < n → Drw (flow M f p) H H' → Q (.int (v : Nat)) H'
theorem int_map {ns : List Int} {i : Nat} {x : V} (hx : (ns.map V.int)[i]? = some x) : ∃ c, ns[i]? = some c ∧ x = V.int c := by
  rw [List.getElem?_map] at hx
  cases e : ns[i]? with
  | none => rw [e] at hx; cases hx
  | some c => rw [e] at hx; exact ⟨c, rfl, (Option.some.inj hx).symm⟩
theorem cmul_s {i j : Int} (h1 : -(2 ^ 64) < j := by decide) (h2 : j < 2 ^ 64 := by decide) : CMul i j := .inr ⟨h1, h2⟩
end Dk

/-! sorted(tuple, key=a def that makes a pair of numbers) -/
namespace Sy
open PySem PySem.Spec PyProof.Rows L2 Dk
theorem perm_up {α β : Type} (f : α → β) : ∀ {p : List β} {q : List β}, p.Perm q → ∀ t : List α, t.map f = q → ∃ t' : List α, t'.Perm t ∧ t'.map f = p := by
  intro p q h
  induction h with
  | nil => intro t e; exact ⟨t, List.Perm.refl _, e⟩
  | cons x h ih =>
    intro t e
    cases t with
    | nil => cases e
    | cons a t =>
      rw [List.map_cons] at e
      obtain ⟨e1, e2⟩ := List.cons.inj e
      obtain ⟨t', h1, h2⟩ := ih t e2
      exact ⟨a :: t', h1.cons a, by rw [List.map_cons, h2, e1]⟩
  | swap x y l =>
    intro t e
    match t, e with
    | a :: b :: t, e =>
      rw [List.map_cons, List.map_cons] at e
      obtain ⟨e1, e2⟩ := List.cons.inj e
      obtain ⟨e2, e3⟩ := List.cons.inj e2
      exact ⟨b :: a :: t, List.Perm.swap _ _ _, by rw [List.map_cons, List.map_cons, e1, e2, e3]⟩
  | trans h1 h2 ih1 ih2 =>
    intro t e
    obtain ⟨t1, k1, k2⟩ := ih2 t e
    obtain ⟨t2, j1, j2⟩ := ih1 t1 k2
    exact ⟨t2, j1.trans k1, j2⟩
/-- the emptied list -/
def emp (a : Addr) (e : Nat) : HO := .ext fun h => h.get? a = some (seqObj "list" #[] e)
section
variable {X : Cx} {pins : List (Addr × Obj)} {σ : L2.St} {s : Shared} {H : Hp} {k : Nat} {f : Addr} {fd : FuncData} {ps : List Str} {sp : Sp} {E : XK}
theorem emp_get {a : Addr} {e : Nat} (I : Inv X pins σ H s) (h : H a = some (emp a e)) : s.heap.get? a = some (seqObj "list" #[] e) := (I.hok a _ h).1
theorem emp_ok {a : Addr} {e : Nat} {h : Heap} {H' : Hp} (q : h.get? a = some (seqObj "list" #[] e)) : ObjOk X.prog X.w H' h a (emp a e) := ⟨q, ⟨_, q⟩, fun h1 h2 g1 g2 => g2 _ g1⟩
theorem turn_ok {x : V} {u : Value} {Q : VK} (F : FnOk X.prog X.w X.K X.mg X.base CX0 k f fd ps sp) (hb : Binds X.K fd ps []) (hr : Room (k + 2) X.A) (I : Inv X pins σ H s) (r : RelV x u) (h : sp [x] H Q E) :
    wpAny (model X.prog X.w) X.A.in1.in1 (call (.ref f) [u]) (EP X pins σ Q) (fun _ _ => False) s := by
  have r2 : Vals [x] [u] := .cons r .nil
  have hl : ([u] ++ ([] : List Value)).length = ps.length := by rw [List.append_nil, ← r2.length]; exact F.len _ _ _ _ h
  have hr2 : Room k X.A.in1.in1 := (show Room (k + 1) X.A.in1 from Room.in1 hr).in1
  have hbb := hb s [u] I.kIn hl
  rw [List.append_nil] at hbb
  refine wpAny_call (codeAny_mono (F.run X.A.in1.in1 X.stack s H ⟨[u], []⟩ [u] [x] Q E hr2 I.env0.in1.in1 hbb r2 h) fun r s' hq => ?_)
  cases r with
  | error e => exact False.elim hq
  | ok fl =>
    cases fl with
    | ret u => exact I.after hq
    | next => exact False.elim hq
    | brk => exact False.elim hq
    | cont => exact False.elim hq
variable {α : Type} {R : Hp → V → α → Prop} [Imm R] {κ : α → Iv}
/-- what the key promises -/
def KeyOk (sp : Sp) (E : XK) (R : Hp → V → α → Prop) (κ : α → Iv) (H : Hp) (l : List α) : Prop := ∀ H' x a, Ex H H' → a ∈ l → R H' x a → sp [x] H' (fun v H2 => Ex H' H2 ∧ PrV H2 v (κ a)) E
theorem vals_get {xs : List V} {us : List Value} (r : Vals xs us) {i : Nat} {u : Value} (h : us[i]? = some u) : ∃ x, xs[i]? = some x ∧ RelV x u := by
  induction r generalizing i with
  | nil => cases h
  | cons r t ih =>
    cases i with
    | zero => exact ⟨_, rfl, by cases h; exact r⟩
    | succ i => exact ih h
theorem vals_snoc {xs : List V} {us : List Value} {x : V} {u : Value} (r : Vals xs us) (h : RelV x u) : Vals (xs ++ [x]) (us ++ [u]) := r.append (.cons h .nil)
theorem p2_snoc {β γ : Type} {S : β → γ → Prop} {xs : List β} {l : List γ} {x : β} {a : γ} (r : P2 S xs l) (h : S x a) : P2 S (xs ++ [x]) (l ++ [a]) := by
  induction r with
  | nil => exact .cons h .nil
  | cons r t ih => exact .cons r ih
/-- the loop over the items: the keys lie in the store -/
theorem rest_ok {a kS : Addr} {e1 : Nat} {H0 : Hp} {vs : List Value} {xs : List V} {l : List α} {P : PySem.Fin → Shared → Prop} {E' : Value → Shared → Prop} (F : FnOk X.prog X.w X.K X.mg X.base CX0 k f fd ps sp) (hb : Binds X.K fd ps []) (hr : Room (k + 2) X.A)
    (hk : KeyOk sp E R κ H0 l) (rx : Vals xs vs) (rl : P2 (R H0) xs l) (hl : l.length ≤ 1000) (I : Inv X pins σ H s) (e0 : Ex H0 H) (na : H0 a = none) (nk : H0 kS = none) (hka : kS ≠ a) (ha : H a = some (emp a e1)) (hkS : H kS = some (.lst []))
    (h : ∀ H' s' ks kv n, Inv X pins σ H' s' → Ex H0 H' → H' a = some (emp a e1) → H' kS = some (.lst ks) → P2 (PrV H') ks (l.map κ) → Vals ks kv → s'.heap.get? kS = some (seqObj "list" kv.toArray n) → wpAny (model X.prog X.w) X.A.in1.in1 (ksk_end a false vs.toArray e1 (.ref kS) kv.toArray) P E' s') :
    wpAny (model X.prog X.w) X.A.in1.in1 (ksk_rest a (.ref f) false vs.toArray e1 (.ref kS)) P E' s := by
  have hlen : vs.length ≤ 1000 := by rw [← rx.length, rl.len]; exact hl
  unfold ksk_rest
  refine wpAny_bind (wpAny_rule ?_)
  first
    | rw [List.forIn_toArray]
    | (rw [← Array.forIn_toList]; simp only [List.toList_toArray])
    | rw [← Array.forIn_toList]
  refine wpAny_bind (ksk_fold (fun i s' => ∃ H' ks, Inv X pins σ H' s' ∧ Ex H0 H' ∧ H' a = some (emp a e1) ∧ H' kS = some (.lst ks) ∧ P2 (PrV H') ks ((l.take i).map κ)) vs 0 s
    ⟨H, [], I, e0, ha, hkS, .nil⟩ ?step ?done)
  case step =>
    rintro j u s' hu ⟨H', ks, I', e', ha', hk', p'⟩
    simp only [Nat.zero_add] at p' ⊢
    obtain ⟨x, hx, rxu⟩ := vals_get rx hu
    obtain ⟨y, hy, ry⟩ := rl.get hx
    refine wpAny_bind (wpAny_attempt (wpAny_mono (turn_ok F hb hr I' rxu (hk H' x y e' (List.mem_of_getElem? hy) (imm (.ex e') ry))) (fun v s'' he => ?_) fun _ _ hF => hF.elim))
    obtain ⟨z, H2, I2, rz, e2, pz⟩ := he
    try dsimp only
    obtain ⟨hz, its, n, ri, hg⟩ := I2.hok kS _ (e2 _ _ hk')
    have jl : j < l.length := (List.getElem?_eq_some_iff.mp hy).1
    have kl : ks.length = j := by rw [p'.len, List.length_map, List.length_take]; omega
    have il : its.length = j := by rw [← ri.length]; exact kl
    obtain ⟨c2, hc2⟩ : ∃ c2, (s''.heap.update kS (Obj.mapSeq (·.push v))).get? kS = some (seqObj "list" (its.toArray.push v) c2) := ⟨_, get?_update_seq hg (·.push v)⟩
    refine wpAny_bind (listUpdate_at hg rfl ?_ (by rw [List.size_toArray, sizeLine_eq]; omega) (by rw [Array.size_push, List.size_toArray, sizeLine_eq]; omega))
    have sb := Heap.SameBut.update s''.heap kS (Obj.mapSeq (·.push v))
    have ea : its.toArray.push v = (its ++ [v]).toArray := by simp
    refine wpAny_pure ⟨rfl, upd H2 kS (.lst (ks ++ [z])), ks ++ [z], I2.write (e := kS) (t' := s''.toks) (by rw [e2 _ _ hk']; trivial) (.inl rfl) (fun b u hb hu => (sb.2 b hb).trans hu) ⟨_, hc2⟩ ⟨by rw [List.length_append, List.length_singleton, sizeLine_eq]; omega, its ++ [v], c2, vals_snoc ri rz, by rw [hc2, ea]⟩,
      Same.mut (e'.trans e2) nk, ?_, upd_same, ?_⟩
    · rw [upd_ne hka.symm]
      exact e2 _ _ ha'
    · have tk : Tk H2 (upd H2 kS (.lst (ks ++ [z]))) := Tk.put (e2 _ _ hk')
      have et : (l.take (j + 1)).map κ = (l.take j).map κ ++ [κ y] := by rw [List.take_add_one, hy]; simp
      rw [et]
      exact p2_snoc (prl_imm tk (prl_imm (.ex e2) p')) (imm tk pz)
  case done =>
    rintro s' ⟨H', ks, I', e', ha', hk', p'⟩
    have et : l.take (0 + vs.length) = l := List.take_of_length_le (by rw [← rx.length, rl.len]; omega)
    rw [et] at p'
    obtain ⟨hz, its, n, ri, hg⟩ := I'.hok kS _ hk'
    refine wpAny_bind (listItems_at hg rfl ?_)
    exact h H' s' ks its n I' e' ha' hk' p' ri hg
theorem key_pairs {h : Heap} {k0 : V → Int × Int} (hok : HOk X.prog X.w H h) (hk : ∀ v x, PrV H v x → k0 v = x) : ∀ {ks : List V} {kv : List Value} {l : List α}, P2 (PrV H) ks (l.map κ) → Vals ks kv →
    P2 (fun (key : Value) (a : α) => k0 (backV key) = κ a ∧ Srt.IsPair h key (κ a).1 (κ a).2) kv l := by
  intro ks kv l
  induction l generalizing ks kv with
  | nil =>
    intro p r
    rw [List.map_nil] at p
    cases p
    cases r
    exact .nil
  | cons a l ih =>
    intro p r
    rw [List.map_cons] at p
    cases p with
    | cons p t =>
      cases r with
      | cons r rt =>
        refine .cons ?_ (ih t rt)
        have e := hk _ _ p
        obtain ⟨q, rfl, hq⟩ := p
        cases r
        refine ⟨e, ?_⟩
        obtain ⟨_, its2, r2, o, ho, hc, n, hd⟩ := hok _ _ hq
        obtain ⟨u1, u2, rfl, ri, rj⟩ := vals2 r2
        obtain ⟨t1, rfl⟩ := ri
        obtain ⟨t2, rfl⟩ := rj
        exact ⟨q, o, t1, t2, n, rfl, ho, hc, hd⟩
theorem join_up {S : Value → α → Prop} {G : Hp} : ∀ {xs : List V} {l : List α}, P2 (R G) xs l → ∀ {vs kv : List Value}, Vals xs vs → P2 S kv l →
    ∃ T : List (Value × Value × V × α), T.map (fun t => (t.1, t.2.1)) = kv.zip vs ∧ T.map (fun t => t.2.2.2) = l ∧ ∀ t ∈ T, S t.1 t.2.2.2 ∧ RelV t.2.2.1 t.2.1 ∧ R G t.2.2.1 t.2.2.2 := by
  intro xs l p
  induction p with
  | nil => intro vs kv r q; cases r; cases q; exact ⟨[], rfl, rfl, fun t h => nomatch h⟩
  | @cons x y xs l p t ih =>
    intro vs kv r q
    cases r with
    | cons r rt =>
      cases q with
      | cons q qt =>
        obtain ⟨T, h1, h2, h3⟩ := ih rt qt
        refine ⟨(_, _, x, y) :: T, by rw [List.map_cons, h1]; rfl, by rw [List.map_cons, h2], fun t ht => ?_⟩
        rcases List.mem_cons.mp ht with rfl | ht
        · exact ⟨q, r, p⟩
        · exact h3 t ht
theorem vals_map {T : List (Value × Value × V × α)} (h : ∀ t ∈ T, RelV t.2.2.1 t.2.1) : Vals (T.map fun t => t.2.2.1) (T.map fun t => t.2.1) := by
  induction T with
  | nil => exact .nil
  | cons t T ih => exact .cons (h t (List.mem_cons_self ..)) (ih fun u hu => h u (List.mem_cons_of_mem _ hu))
theorem p2_map {G : Hp} {T : List (Value × Value × V × α)} (h : ∀ t ∈ T, R G t.2.2.1 t.2.2.2) : P2 (R G) (T.map fun t => t.2.2.1) (T.map fun t => t.2.2.2) := by
  induction T with
  | nil => exact .nil
  | cons t T ih => exact .cons (h t (List.mem_cons_self ..)) (ih fun u hu => h u (List.mem_cons_of_mem _ hu))
theorem tail_ok {a kS : Addr} {e1 : Nat} {H0 : Hp} {vs kv : List Value} {xs ks : List V} {l : List α} {k0 : V → Int × Int} {A : Around} {st : SortSt} {P : PySem.Fin → Shared → Prop} {E' : Value → Shared → Prop}
    (I : Inv X pins σ H s) (e0 : Ex H0 H) (na : H0 a = none) (nk : H0 kS = none) (hka : kS ≠ a) (ha : H a = some (emp a e1)) (hkS : H kS = some (.lst ks)) (hk0 : ∀ v x, PrV H v x → k0 v = x)
    (rx : Vals xs vs) (rl : P2 (R H) xs l) (hl : l.length ≤ 1000) (pk : P2 (PrV H) ks (l.map κ)) (rk : Vals ks kv)
    (hs : SrtO.Srtd (SrtO.lt2 fun v u => SrtO.lexB (k0 (backV v)) (k0 (backV u))) (arrOf st).toList) (hp : (arrOf st).toList.Perm (kv.zip vs)) (hf : failedOf st = none)
    (h : ∀ H' s' ys m, Inv X pins σ H' s' → Ex H0 H' → H' a = some (.lst ys) → P2 (R H') ys m → m.Pairwise (fun a b => Pk.Lx (κ a) (κ b)) → m.Perm l → P (.done (.ret .none)) s') :
    wpAny (model X.prog X.w) A (ksk_tail a false e1 (.ref kS) st) P E' s := by
  obtain ⟨T, t1, t2, t3⟩ := join_up rl rx (key_pairs I.hok hk0 pk rk)
  obtain ⟨T', u1, u2⟩ := perm_up (fun t : Value × Value × V × α => (t.1, t.2.1)) hp T t1
  have t3' : ∀ t ∈ T', k0 (backV t.1) = κ t.2.2.2 ∧ RelV t.2.2.1 t.2.1 ∧ R H t.2.2.1 t.2.2.2 := fun t ht => by
    obtain ⟨z1, z2⟩ := t3 t (u1.mem_iff.mp ht)
    exact ⟨z1.1, z2⟩
  have hm : (T'.map fun t => t.2.2.2).Perm l := by
    rw [← t2]
    exact u1.map _
  have ls : (T'.map fun t => t.2.2.1).length ≤ 1000 := by rw [List.length_map, ← List.length_map (f := fun t : Value × Value × V × α => t.2.2.2), hm.length_eq]; exact hl
  have es : (arrOf st).map (·.2) = (T'.map fun t => t.2.1).toArray := by
    apply Array.ext'
    rw [Array.toList_map, ← u2, List.map_map]
    rfl
  obtain ⟨_, its, ni, ri, hg⟩ := I.hok kS _ hkS
  have lk : its.length ≤ 1000 := by rw [← ri.length, pk.len, List.length_map]; exact hl
  obtain ⟨c1, hc1⟩ : ∃ c1, (s.heap.update kS (Obj.mapSeq fun _ => (#[] : Array Value))).get? kS = some (seqObj "list" (#[] : Array Value) c1) := ⟨_, get?_update_seq hg fun _ => #[]⟩
  have s1 := Heap.SameBut.update s.heap kS (Obj.mapSeq fun _ => (#[] : Array Value))
  have I1 : Inv X pins σ (upd H kS (.lst [])) { s with heap := s.heap.update kS (Obj.mapSeq fun _ => (#[] : Array Value)) } :=
    I.write (e := kS) (t' := s.toks) (by rw [hkS]; trivial) (.inl rfl) (fun b u hb hu => (s1.2 b hb).trans hu) ⟨_, hc1⟩ ⟨Nat.zero_le _, [], c1, .nil, hc1⟩
  have ha1 : upd H kS (.lst []) a = some (emp a e1) := by rw [upd_ne hka.symm]; exact ha
  have ga := emp_get I1 ha1
  unfold ksk_tail
  try dsimp only
  refine wpAny_bind (listUpdate_at hg rfl ?_ (by rw [List.size_toArray, sizeLine_eq]; omega) (Nat.zero_le _))
  refine wpAny_bind (wpAny_letGo ?_)
  refine wpAny_bind (seqEpoch_at ga rfl ?_)
  simp only [bne_self_eq_false, Bool.false_eq_true, if_false]
  refine wpAny_bind (listUpdate_at ga rfl ?_ (Nat.zero_le _) (by rw [es, List.size_toArray, List.length_map, ← List.length_map (f := fun t : Value × Value × V × α => t.2.2.1), sizeLine_eq]; omega))
  rw [hf]
  obtain ⟨c2, hc2⟩ : ∃ c2, ((s.heap.update kS (Obj.mapSeq fun _ => (#[] : Array Value))).update a (Obj.mapSeq fun _ => (arrOf st).map (·.2))).get? a = some (seqObj "list" ((arrOf st).map (·.2)) c2) := ⟨_, get?_update_seq ga fun _ => (arrOf st).map (·.2)⟩
  have s2 := Heap.SameBut.update (s.heap.update kS (Obj.mapSeq fun _ => (#[] : Array Value))) a (Obj.mapSeq fun _ => (arrOf st).map (·.2))
  have tk : Tk H (upd (upd H kS (.lst [])) a (.lst (T'.map fun t => t.2.2.1))) := fun p xs hp => by
    have n1 : p ≠ kS := fun z => by rw [z, hkS] at hp; cases hp
    have n2 : p ≠ a := fun z => by rw [z, ha] at hp; cases hp
    rw [upd_ne n2, upd_ne n1]
    exact hp
  refine wpAny_pure (h (upd (upd H kS (.lst [])) a (.lst (T'.map fun t => t.2.2.1))) _ (T'.map fun t => t.2.2.1) (T'.map fun t => t.2.2.2) (I1.write (e := a) (t' := s.toks) (by rw [ha1]; trivial) (.inl rfl) (fun b u hb hu => (s2.2 b hb).trans hu) ⟨_, hc2⟩
    ⟨by rw [sizeLine_eq]; omega, T'.map fun t => t.2.1, c2, vals_map fun t ht => (t3' t ht).2.1, by rw [← es]; exact hc2⟩) (Same.mut (Same.mut e0 nk) na) upd_same (p2_imm tk (p2_map fun t ht => (t3' t ht).2.2)) ?_ hm)
  rw [← u2] at hs
  refine List.pairwise_map.mpr ((List.pairwise_map.mp hs).imp_of_mem fun {p q} hp hq z => ?_)
  have z1 := (t3' p hp).1
  have z2 := (t3' q hq).1
  have z3 : SrtO.lexB (k0 (backV q.1)) (k0 (backV p.1)) = false := z
  rw [z1, z2] at z3
  have := SrtO.lexB_no.mp z3
  unfold Pk.Lx
  omega
theorem pairs_of {h : Heap} {k0 : V → Int × Int} : ∀ {kv : List Value} {l : List α}, P2 (fun (key : Value) (a : α) => k0 (backV key) = κ a ∧ Srt.IsPair h key (κ a).1 (κ a).2) kv l → ∀ v ∈ kv, Srt.IsPair h v (k0 (backV v)).1 (k0 (backV v)).2 := by
  intro kv l p
  induction p with
  | nil => intro v hv; cases hv
  | cons p t ih =>
    intro v hv
    rcases List.mem_cons.mp hv with rfl | hv
    · rw [p.1]; exact p.2
    · exact ih v hv
theorem end_ok {a kS : Addr} {e1 : Nat} {H0 : Hp} {vs kv : List Value} {xs ks : List V} {l : List α} {A : Around} {P : PySem.Fin → Shared → Prop} {E' : Value → Shared → Prop}
    (I : Inv X pins σ H s) (e0 : Ex H0 H) (na : H0 a = none) (nk : H0 kS = none) (hka : kS ≠ a) (ha : H a = some (emp a e1)) (hkS : H kS = some (.lst ks))
    (rx : Vals xs vs) (rl : P2 (R H) xs l) (hl : l.length ≤ 1000) (pk : P2 (PrV H) ks (l.map κ)) (rk : Vals ks kv)
    (h : ∀ H' s' ys m, Inv X pins σ H' s' → Ex H0 H' → H' a = some (.lst ys) → P2 (R H') ys m → m.Pairwise (fun a b => Pk.Lx (κ a) (κ b)) → m.Perm l → P (.done (.ret .none)) s') :
    wpAny (model X.prog X.w) A (ksk_end a false vs.toArray e1 (.ref kS) kv.toArray) P E' s := by
  obtain ⟨k0, hk0⟩ := pk_key H
  have hkv := key_pairs I.hok hk0 pk rk
  have hpr := pairs_of hkv
  have lx : vs.length = l.length := by rw [← rx.length, rl.len]
  have lk : kv.length = l.length := by rw [← rk.length, pk.len, List.length_map]
  have ez : (kv.toArray.zip vs.toArray).toList = kv.zip vs := by rw [ksk_zip]
  unfold ksk_end
  try dsimp only
  simp only [Bool.false_eq_true, if_false]
  by_cases h2 : vs.toArray.size < 2
  · rw [if_pos h2, if_pos h2]
    refine wpAny_bind (wpAny_pure ?_)
    rw [StateT.run_pure]
    refine wpAny_bind (wpAny_pure ?_)
    try dsimp only
    refine tail_ok (st := SortSt.mk' general' (kv.toArray.zip vs.toArray) #[] 7 none) I e0 na nk hka ha hkS hk0 rx rl hl pk rk ?_ (by rw [show (arrOf (SortSt.mk' general' (kv.toArray.zip vs.toArray) #[] 7 none)).toList = kv.zip vs from ez]) rfl h
    rw [show (arrOf (SortSt.mk' general' (kv.toArray.zip vs.toArray) #[] 7 none)).toList = kv.zip vs from ez]
    rw [List.size_toArray] at h2
    have hz : (kv.zip vs).length < 2 := by rw [List.length_zip]; omega
    match kv.zip vs, hz with
    | [], _ => exact List.Pairwise.nil
    | [v], _ => exact List.pairwise_singleton _ _
    | _ :: _ :: l, h => exact absurd h (by rw [List.length_cons, List.length_cons]; omega)
  · rw [if_neg h2, if_neg h2]
    rw [List.size_toArray] at h2
    obtain ⟨fs, h1, h3, h4⟩ := Srt.firsts_of fun v hv => ⟨_, _, hpr v hv⟩
    refine wpAny_bind (PySem.W.kat_kind (T := .type "int") h1 (by omega) (fun f hm => ?_) (by rfl) ?_)
    · obtain ⟨x, t, rfl⟩ := h4 f hm
      exact PySem.W.Looks.now
    · have e : (Value.type "int" != Value.type "tuple") = true := by first | decide +kernel | rfl | decide
      rw [e]
      have hall : SrtO.AllL (fun p : Keyed => p.1 ∈ kv) (arrOf (SortSt.mk' (tuples' true) (kv.toArray.zip vs.toArray) #[] 7 none)).toList := fun p hm => by
        rw [show (arrOf (SortSt.mk' (tuples' true) (kv.toArray.zip vs.toArray) #[] 7 none)).toList = kv.zip vs from ez] at hm
        exact (List.of_mem_zip hm).1
      refine wpAny_bind (wpAny_mono (SrtO.wpS_sortO (st0 := SortSt.mk' (tuples' true) (kv.toArray.zip vs.toArray) #[] 7 none)
        (Q := fun _ st' => SrtO.Srtd (SrtO.lt2 fun v u => SrtO.lexB (k0 (backV v)) (k0 (backV u))) (arrOf st').toList ∧ (arrOf st').toList.Perm (kv.zip vs) ∧ failedOf st' = none) (SrtO.swo2 (SrtO.swo_lex fun v => k0 (backV v))) (SrtO.pair_cmp (k := fun v => k0 (backV v)) hpr) rfl hall rfl rfl
        fun st' a1 a2 a3 => ⟨a1, by rw [← ez]; exact a2.perm, a3⟩) ?_ fun _ _ e => e)
      rintro ⟨⟨⟩, st'⟩ s' ⟨rfl, hp1, hp2, hf⟩
      try dsimp only
      exact tail_ok I e0 na nk hka ha hkS hk0 rx rl hl pk rk hp1 hp2 hf h
/-- sorted(a tuple, key=a def) -/
def rSortK (K : PySem.W.Frag) (sp : Sp) (E : XK) (f : Addr) (R : Hp → V → α → Prop) (κ : α → Iv) : List V → List V → Hp → VK → Prop := fun vs zs H Q => ∃ (t : Addr) (xs : List V) (l : List α), vs = [V.ref t] ∧ zs = [V.ref f] ∧ SqT K H t xs ∧ P2 (R H) xs l ∧ l.length ≤ 1000 ∧ KeyOk sp E R κ H l ∧
  ∀ ys m d H', Ex H H' → P2 (R H') ys m → m.Pairwise (fun a b => Pk.Lx (κ a) (κ b)) → m.Perm l → H d = none → H' d = some (.lst ys) → Q (.ref d) H'
theorem cr_sortK (F : FnOk X.prog X.w X.K X.mg X.base CX0 k f fd ps sp) (hb : Binds X.K fd ps []) (hr : Room (k + 2) X.A) : CallRK X (.builtin "sorted") [Str.ofString "key"] (rSortK X.K sp E f R κ) := by
  intro pins s σ H vs zs us ws Q I r rz h
  obtain ⟨t, xs, l, rfl, rfl, ht, rl, hl, hk, q⟩ := h
  obtain rfl := Vals.ref1 r
  obtain ⟨w1, rfl, e1⟩ := vals1 rz
  obtain rfl : w1 = Value.ref f := e1
  obtain ⟨vs, rx, ⟨o, ho, hc, n, hd⟩, hz⟩ := I.tuple ht
  have hv : vs.length ≤ 1000 := by rw [← rx.length, rl.len]; exact hl
  refine call_function_entry_kw kind_sorted plain_sorted entry_sorted (ksk_s1 _ _) ?_
  unfold Builtin.«sorted»
  refine wpAny_bind (m := checkCount "sorted" 1 1 _) (wpAny_pure ?_)
  refine wpAny_bind (wpAny_collect_seq t (.inr rfl) ho hc hd (fun h1 k1 => ?_) (by rw [List.size_toArray, sizeLine_eq]; omega))
  have I1 : Inv X pins σ H { s with heap := h1 } := I.kept (t' := s.toks) k1
  refine wpAny_bind (wpAny_newList ?_ (by rw [sizeLine_eq]; show vs.toArray.toList.length ≤ _; simp; omega))
  have ev : vs.toArray.toList = vs := by simp
  rw [ev]
  have hoL : (h1.push (seqObj "list" vs.toArray 0)).get? h1.objs.size = some (seqObj "list" vs.toArray 0) := Heap.get?_push_size _ rfl
  refine wpAny_bind (wpAny_holding (wpAny_call_entry_kw slot_list_sort ⟨_, hoL, rfl⟩ entry_list_sort ?body (ksk_l1 _ _)))
  case body =>
    show wpAny (model X.prog X.w) X.A.in1.in1 (Builtin.«list.sort» ⟨[.ref h1.objs.size], [(Str.ofString "key", .ref f)]⟩) _ _ _
    rw [ksk_t1]
    have na : H h1.objs.size = none := I1.hok.fresh (Nat.le_refl _)
    have hv2 : vs.toArray.size ≤ sizeLine := by rw [List.size_toArray, sizeLine_eq]; omega
    unfold ksk_tree
    refine wpAny_bind (listItems_at hoL rfl ?_)
    refine wpAny_bind (listUpdate_at hoL rfl ?_ hv2 (Nat.zero_le _))
    obtain ⟨e2, ho2⟩ : ∃ e2, ((h1.push (seqObj "list" vs.toArray 0)).update h1.objs.size (Obj.mapSeq fun _ => (#[] : Array Value))).get? h1.objs.size = some (seqObj "list" #[] e2) := ⟨_, get?_update_seq hoL fun _ => #[]⟩
    refine wpAny_bind (seqEpoch_at ho2 rfl ?_)
    refine wpAny_bind (wpAny_newTuple ?_ hv2)
    refine wpAny_bind (wpAny_newList ?_ (Nat.zero_le _))
    refine wpAny_holding ?_
    have sb := Heap.SameBut.update (h1.push (seqObj "list" vs.toArray 0)) h1.objs.size (Obj.mapSeq fun _ => (#[] : Array Value))
    let h3 := ((h1.push (seqObj "list" vs.toArray 0)).update h1.objs.size (Obj.mapSeq fun _ => (#[] : Array Value))).push { cls := .type "tuple", data := .seq vs.toArray.toList.toArray }
    have ho3 : h3.get? h1.objs.size = some (seqObj "list" #[] e2) := Heap.get?_push_of_some _ ho2
    have keep3 : ∀ b o, h1.get? b = some o → h3.get? b = some o := fun b o q =>
      Heap.get?_push_of_some _ ((sb.2 b (Nat.ne_of_lt (Heap.lt_size q))).trans (Heap.get?_push_of_some _ q))
    have sz3 : h3.objs.size = h1.objs.size + 2 := by
      show (Heap.push _ _).objs.size = _
      rw [size_push', Heap.size_update, size_push']
    have I3 : Inv X pins σ (upd H h1.objs.size (emp h1.objs.size e2)) { s with heap := h3 } := I1.laid (t' := s.toks) keep3 (Nat.le_refl _) (emp_ok ho3)
    have nk : H h3.objs.size = none := I1.hok.fresh (by show h1.objs.size ≤ _; omega)
    have I4 : Inv X pins σ (upd (upd H h1.objs.size (emp h1.objs.size e2)) h3.objs.size (.lst [])) { s with heap := h3.push { cls := .type "list", data := .seq ([] : List Value).toArray } } :=
      I3.laid (t' := s.toks) (fun b u e => Heap.get?_push_of_some _ e) (Nat.le_refl _) ⟨Nat.zero_le _, [], 0, .nil, Heap.get?_push_size _ rfl⟩
    have hka : h3.objs.size ≠ h1.objs.size := by omega
    refine rest_ok (H0 := H) (a := h1.objs.size) (kS := h3.objs.size) F hb hr hk rx rl hl I4 (Same.mut (Same.mut (Same.refl H) na) nk) na nk hka (by rw [upd_ne hka.symm]; exact upd_same) upd_same fun H' s' ks kv n I' e' ha' hk' p' rk _ => ?_
    refine end_ok I' e' na nk hka ha' hk' rx (p2_imm (.ex e') rl) hl p' rk fun H2 s2 ys m I2 e2' ha2 p2 hpw hpm => ?_
    exact ⟨_, rfl, wpAny_pure ⟨_, rfl, .ref _, H2, I2, rfl, q ys m _ H2 e2' p2 hpw hpm na ha2⟩⟩
end
end Sy

/-! sorted(list of triples: two numbers, no two alike, and a pair) -/
namespace Sz
open PySem PySem.Spec PyProof.Rows L2 Dk
def TrV (H : Hp) (v : V) (x : Iv × Iv) : Prop := ∃ p q : Addr, v = .ref p ∧ H p = some (.tup [.int x.1.1, .int x.1.2, .ref q]) ∧ PrV H (.ref q) x.2
instance : Imm TrV := ⟨fun t h => by
  obtain ⟨p, q, h1, h2, h3⟩ := h
  exact ⟨p, q, h1, t _ _ h2, imm t h3⟩⟩
def IsTri (h : Heap) (v : Value) (x y : Int) (z : Value) : Prop := ∃ a o t u n, v = .ref a ∧ h.get? a = some o ∧ o.cls = .type "tuple" ∧ o.data = .seq #[.int x t, .int y u, z] n
theorem IsTri.keeps {h h' : Heap} {v z : Value} {x y : Int} (p : IsTri h v x y z) (k : ∀ b o, h.get? b = some o → o.cls = .type "tuple" → h'.get? b = some o) : IsTri h' v x y z := by
  obtain ⟨a, o, t, u, n, e, ho, hc, hd⟩ := p
  exact ⟨a, o, t, u, n, e, k _ _ ho hc, hc, hd⟩
theorem firsts_of {h : Heap} : ∀ {vs : List Value}, (∀ v ∈ vs, ∃ x y z, IsTri h v x y z) → ∃ fs : List Value, PySem.W.KatTups h vs fs ∧ fs.length = vs.length ∧ ∀ f ∈ fs, ∃ x t, f = Value.int x t
  | [], _ => ⟨[], PySem.W.KatTups.nil, rfl, fun _ hm => by simp at hm⟩
  | v :: vs, hp => by
    obtain ⟨fs, h1, h2, h3⟩ := firsts_of (vs := vs) fun v' hm => hp v' (List.mem_cons_of_mem _ hm)
    obtain ⟨x, y, z, a, o, t, u, n, e, ho, hc, hd⟩ := hp v (List.mem_cons_self ..)
    subst e
    refine ⟨.int x t :: fs, PySem.W.KatTups.cons ho hc hd rfl h1, by rw [List.length_cons, List.length_cons, h2], fun f hm => ?_⟩
    rcases List.mem_cons.mp hm with rfl | hm
    · exact ⟨x, t, rfl⟩
    · exact h3 f hm
section
variable {prog : Program} {w : World} {A : Around} {E : Value → Shared → Prop} {s : Shared}
theorem tri_cmp {vs : List Value} {k : Value → Int × Int} (hp : ∀ v ∈ vs, ∃ z, IsTri s.heap v (k v).1 (k v).2 z) (inj : ∀ v ∈ vs, ∀ u ∈ vs, k v = k u → v = u) :
    SrtO.Cmp prog w A s (tuples' true) (fun p => p.1 ∈ vs) (SrtO.lt2 fun v u => SrtO.lexB (k v) (k u)) := by
  intro p q hm hm'
  obtain ⟨z, h1⟩ := hp _ hm
  obtain ⟨z', h2⟩ := hp _ hm'
  have hin := inj _ hm _ hm'
  show wpAny (model prog w) A (keyLt' (tuples' true) p.1 q.1) (fun r s' => s' = s ∧ r = SrtO.lexB (k p.1) (k q.1)) (fun _ _ => False) s
  unfold SrtO.lexB
  have hin' : (k p.1).1 = (k q.1).1 → (k p.1).2 = (k q.1).2 → p.1 = q.1 := fun a b => hin (Prod.ext a b)
  generalize (k p.1).1 = x at h1 hin' ⊢
  generalize (k p.1).2 = y at h1 hin' ⊢
  generalize (k q.1).1 = x' at h2 hin' ⊢
  generalize (k q.1).2 = y' at h2 hin' ⊢
  obtain ⟨a, o, t, u, n, e, ho, hc, hd⟩ := h1
  obtain ⟨a', o', t', u', n', e', ho', hc', hd'⟩ := h2
  rw [e, e'] at hin'
  rw [e, e']
  refine PySem.W.kat_lt ho hd ho' hd' ?_
  show PySem.W.KatLex prog w A true (decide (3 < 3)) _ [(.int x t, .int x' t'), (.int y u, .int y' u'), (z, z')] 0 s
  refine PySem.W.kat_cons (SeqAt.EqAt.int_int x t x' t' prog w _ _ ?_)
  refine PySem.W.kat_go (fun e1 => ?_) (fun e1 => ?_)
  · have ex : x = x' := by simpa using e1
    refine PySem.W.kat_yes (PySem.W.kat_cons (SeqAt.EqAt.int_int y u y' u' prog w _ _ ?_))
    refine PySem.W.kat_go (fun e2 => ?_) (fun e2 => ?_)
    · have ey : y = y' := by simpa using e2
      have e3 : (if x = x' then decide (y < y') else decide (x < x')) = false := by
        rw [if_pos ex, ey]
        exact decide_eq_false (Int.lt_irrefl _)
      have ea : a = a' := by have := hin' ex ey; injection this
      subst ea
      rw [ho] at ho'
      cases ho'
      rw [hd] at hd'
      injection hd' with d1 d2
      have dz : z = z' := by
        have := congrArg (fun xs : Array Value => xs[2]?) d1
        simpa using this
      subst dz
      refine PySem.W.kat_yes (PySem.W.kat_cons (SeqAt.EqAt.same z prog w _ _ ?_))
      refine PySem.W.kat_go (fun _ => ?_) (fun e3 => by cases e3)
      exact PySem.W.kat_yes (PySem.W.kat_nil ⟨rfl, e3.symm⟩)
    · have e3 : (if x = x' then decide (y < y') else decide (x < x')) = decide (y < y') := if_pos ex
      refine PySem.W.kat_no (PySem.W.kat_one _ _ (PyProof.Rows.lt_int ?_))
      exact (show s = s ∧ decide (y < y') = (if x = x' then decide (y < y') else decide (x < x')) from ⟨rfl, e3.symm⟩)
  · have ex : ¬ x = x' := by simpa using e1
    have e3 : (if x = x' then decide (y < y') else decide (x < x')) = decide (x < x') := if_neg ex
    exact PySem.W.kat_no (oneLt_int ⟨rfl, e3.symm⟩)
theorem tri_sortable {a : Addr} {vs : List Value} {k : Value → Int × Int} (h0 : 0 < vs.length) (hp : ∀ v ∈ vs, ∃ z, IsTri s.heap v (k v).1 (k v).2 z) (inj : ∀ v ∈ vs, ∀ u ∈ vs, k v = k u → v = u) (ha : ∀ o, s.heap.get? a = some o → o.cls ≠ .type "tuple") :
    SrtO.SortableO prog w A s a vs fun v u => SrtO.lexB (k v) (k u) := by
  intro h' keep
  have hp' : ∀ v ∈ vs, ∃ z, IsTri h' v (k v).1 (k v).2 z := fun v hm => (hp v hm).imp fun _ g => g.keeps fun b o e c => keep b o (fun z => by subst z; exact ha o e c) e
  obtain ⟨fs, h1, h2, h3⟩ := firsts_of fun v hm => ⟨_, _, hp' v hm⟩
  refine ⟨tuples' true, fun Q E hq => ?_, tri_cmp hp' inj⟩
  refine PySem.W.kat_kind (T := .type "int") h1 (by omega) (fun f hm => ?_) (by rfl) ?_
  · obtain ⟨x, t, rfl⟩ := h3 f hm
    exact PySem.W.Looks.now
  · have e : (Value.type "int" != Value.type "tuple") = true := by first | decide +kernel | rfl | decide
    rw [e]
    exact hq
end
theorem tr_key (H : Hp) : ∃ k : V → Int × Int, ∀ v x, TrV H v x → k v = x.1 := by
  refine ⟨fun v => match v with
    | .ref p => (match H p with
      | some (.tup [.int a, .int b, _]) => (a, b)
      | _ => (0, 0))
    | _ => (0, 0), fun v x h => ?_⟩
  obtain ⟨p, q, rfl, hp, _⟩ := h
  show (match H p with
      | some (.tup [.int a, .int b, _]) => (a, b)
      | _ => (0, 0)) = x.1
  rw [hp]
theorem p2_true {α β : Type} : ∀ {xs : List α} {ys : List β}, xs.length = ys.length → P2 (fun _ _ => True) xs ys
  | [], [], _ => .nil
  | _ :: xs, _ :: ys, h => .cons trivial (p2_true (Nat.succ.inj h))
def rSortT (K : PySem.W.Frag) : List V → Hp → VK → Prop := fun vs H Q => ∃ (a : Addr) (xs : List V) (l : List (Iv × Iv)), vs = [V.ref a] ∧ SqL K H a xs ∧ P2 (TrV H) xs l ∧ (l.map Prod.fst).Nodup ∧
  ∀ ys m d, P2 (TrV H) ys m → m.Pairwise (fun a b => Pk.Lx a.1 b.1) → m.Perm l → H d = none → Q (.ref d) (upd H d (.lst ys))
theorem cr_sortT {X : Cx} : CallR X (.builtin "sorted") (rSortT X.K) := by
  intro pins s σ H vs us Q I r h
  obtain ⟨a, xs, l, rfl, hs, pl, nd, q⟩ := h
  obtain ⟨its, rv, hl, hz⟩ := I.list hs
  obtain rfl := Vals.ref1 r
  obtain ⟨k0, hk0⟩ := tr_key H
  -- each item, its value and its data
  have tri : ∀ x y v, TrV H x y → RelV x v → k0 (backV v) = y.1 ∧ ∃ z, IsTri s.heap v y.1.1 y.1.2 z := fun x y v hx hv => by
    have e := hk0 _ _ hx
    obtain ⟨p, t, rfl, hp, _⟩ := hx
    cases hv
    refine ⟨e, ?_⟩
    obtain ⟨_, its2, r2, o, ho, hc, n, hd⟩ := I.hok _ _ hp
    obtain ⟨u1, us1, rfl, ri, r3⟩ : ∃ u1 us1, its2 = u1 :: us1 ∧ RelV (.int y.1.1) u1 ∧ Vals [.int y.1.2, .ref t] us1 := by
      cases r2 with | cons r r' => exact ⟨_, _, rfl, r, r'⟩
    obtain ⟨u2, u3, rfl, rj, rt⟩ := vals2 r3
    obtain ⟨t1, rfl⟩ := ri
    obtain ⟨t2, rfl⟩ := rj
    exact ⟨u3, p, o, t1, t2, n, rfl, ho, hc, hd⟩
  have ix : ∀ {v : Value}, v ∈ its → ∃ i x y, its[i]? = some v ∧ xs[i]? = some x ∧ l[i]? = some y ∧ RelV x v ∧ TrV H x y := fun {v} hv => by
    obtain ⟨i, hi⟩ := List.mem_iff_getElem?.mp hv
    obtain ⟨x, hx, rx⟩ := Sy.vals_get rv hi
    obtain ⟨y, hy, ry⟩ := pl.get hx
    exact ⟨i, x, y, hi, hx, hy, rx, ry⟩
  have hp : ∀ v ∈ its, ∃ z, IsTri s.heap v (k0 (backV v)).1 (k0 (backV v)).2 z := fun v hv => by
    obtain ⟨i, x, y, _, _, _, rx, ry⟩ := ix hv
    obtain ⟨e, g⟩ := tri x y v ry rx
    rw [e]
    exact g
  have inj : ∀ v ∈ its, ∀ u ∈ its, k0 (backV v) = k0 (backV u) → v = u := fun v hv u hu e => by
    obtain ⟨i, x, y, hi, _, hy, rx, ry⟩ := ix hv
    obtain ⟨j, x', y', hj, _, hy', rx', ry'⟩ := ix hu
    rw [(tri x y v ry rx).1, (tri x' y' u ry' rx').1] at e
    have il : i < (l.map Prod.fst).length := by rw [List.length_map]; exact (List.getElem?_eq_some_iff.mp hy).1
    have jl : j < (l.map Prod.fst).length := by rw [List.length_map]; exact (List.getElem?_eq_some_iff.mp hy').1
    have ij : i = j := by
      have ee : (l.map Prod.fst)[i] = (l.map Prod.fst)[j] := by
        rw [List.getElem_map, List.getElem_map, (List.getElem?_eq_some_iff.mp hy).2, (List.getElem?_eq_some_iff.mp hy').2]
        exact e
      have pw := List.pairwise_iff_getElem.mp nd
      rcases Nat.lt_trichotomy i j with c | c | c
      · exact absurd ee (pw i j il jl c)
      · exact c
      · exact absurd ee.symm (pw j i jl il c)
    subst ij
    rw [hi] at hj
    exact Option.some.inj hj
  refine SrtO.sorted_ord (SrtO.swo_lex fun v => k0 (backV v)) hl.isList (by rw [← rv.length]; exact hz) (fun h2 h₁ a ha kk => ?_) fun out hs hb => ?_
  · refine tri_sortable (s := { s with heap := h₁ }) (k := fun v => k0 (backV v)) (by omega) (fun v hm => (hp v hm).imp fun _ g => g.keeps fun b o e _ => (kk b o e).2) inj fun o e => ?_
    have e' : some o = some (seqObj "list" its.toArray 0) := e.symm.trans (by simpa using ha)
    cases e'
    intro c
    exact absurd (Value.type.inj c) (by decide)
  · -- the data in the same order
    have hlen : its.length = l.length := by rw [← rv.length, pl.len]
    obtain ⟨T, t1, t2, t3⟩ := Sy.join_up (S := fun (_ : Value) (_ : Iv × Iv) => True) pl rv (kv := its) (p2_true hlen)
    have e1 : T.map (fun t => t.2.1) = its := by
      have := congrArg (List.map Prod.snd) t1
      rw [List.map_map, List.map_snd_zip (Nat.le_refl _)] at this
      exact this
    obtain ⟨T', u1, u2⟩ := Sy.perm_up (fun t : Value × Value × V × (Iv × Iv) => t.2.1) hb.perm T e1
    have t3' : ∀ t ∈ T', RelV t.2.2.1 t.2.1 ∧ TrV H t.2.2.1 t.2.2.2 := fun t ht => (t3 t (u1.mem_iff.mp ht)).2
    have hm : (T'.map fun t => t.2.2.2).Perm l := by
      rw [← t2]
      exact u1.map _
    have ls : (T'.map fun t => t.2.2.1).length ≤ sizeLine := by
      rw [List.length_map, ← List.length_map (f := fun t : Value × Value × V × (Iv × Iv) => t.2.2.2), hm.length_eq, ← pl.len]
      exact hz
    obtain ⟨n, hn⟩ := sortedAll_at s.heap its out.toArray
    have rvs : Vals (T'.map fun t => t.2.2.1) out := by rw [← u2]; exact Sy.vals_map fun t ht => (t3' t ht).1
    refine ⟨.ref _, upd H (s.heap.objs.size + 1) (.lst (T'.map fun t => t.2.2.1)), I.laid (t' := s.toks) (fun _ _ => sortedAll_old) (Nat.le_succ _) ⟨ls, out, n, rvs, hn⟩, rfl, q _ (T'.map fun t => t.2.2.2) _ (Sy.p2_map fun t ht => (t3' t ht).2) ?_ hm (I.hok.fresh (Nat.le_succ _))⟩
    rw [← u2] at hs
    refine List.pairwise_map.mpr ((List.pairwise_map.mp hs).imp_of_mem fun {p q} hp hq z => ?_)
    have z1 := (tri _ _ _ (t3' p hp).2 (t3' p hp).1).1
    have z2 := (tri _ _ _ (t3' q hq).2 (t3' q hq).1).1
    have z3 : SrtO.lexB (k0 (backV q.2.1)) (k0 (backV p.2.1)) = false := z
    rw [z1, z2] at z3
    have := SrtO.lexB_no.mp z3
    unfold Pk.Lx
    omega
/-- sorted(a tuple of pairs) -/
def rSortPT (K : PySem.W.Frag) : List V → Hp → VK → Prop := fun vs H Q => ∃ (t : Addr) (xs : List V) (l : List Iv), vs = [V.ref t] ∧ SqT K H t xs ∧ PrL H xs l ∧
  ∀ ys m d, PrL H ys m → m.Pairwise Pk.Lx → m.Perm l → H d = none → Q (.ref d) (upd H d (.lst ys))
theorem cr_sortPT {X : Cx} : CallR X (.builtin "sorted") (rSortPT X.K) := by
  intro pins s σ H vs us Q I r h
  obtain ⟨t, xs, l, rfl, hs, pl, q⟩ := h
  obtain ⟨its, rv, ⟨o, ho, hc, n0, hd⟩, hz⟩ := I.tuple hs
  obtain rfl := Vals.ref1 r
  obtain ⟨k0, hk0⟩ := pk_key H
  have hv : its.length ≤ sizeLine := by rw [← rv.length]; exact hz
  have tri : ∀ x y v, PrV H x y → RelV x v → k0 (backV v) = y ∧ Srt.IsPair s.heap v y.1 y.2 := fun x y v hx hv => by
    have e := hk0 _ _ hx
    obtain ⟨p, rfl, hp⟩ := hx
    cases hv
    refine ⟨e, ?_⟩
    obtain ⟨_, its2, r2, o, ho, hc, n, hd⟩ := I.hok _ _ hp
    obtain ⟨u1, u2, rfl, ri, rj⟩ := vals2 r2
    obtain ⟨t1, rfl⟩ := ri
    obtain ⟨t2, rfl⟩ := rj
    exact ⟨p, o, t1, t2, n, rfl, ho, hc, hd⟩
  have hp : ∀ v ∈ its, Srt.IsPair s.heap v (k0 (backV v)).1 (k0 (backV v)).2 := fun v hv => by
    obtain ⟨i, hi⟩ := List.mem_iff_getElem?.mp hv
    obtain ⟨x, hx, rx⟩ := Sy.vals_get rv hi
    obtain ⟨y, hy, ry⟩ := pl.get hx
    obtain ⟨e, g⟩ := tri x y v ry rx
    rw [e]
    exact g
  refine Calls.call_function_entry kind_sorted plain_sorted entry_sorted (args_sorted1 _) ?_
  unfold Builtin.«sorted»
  refine wpAny_bind (m := checkCount "sorted" 1 1 _) (wpAny_pure ?_)
  refine wpAny_bind (wpAny_collect_seq t (.inr rfl) ho hc hd (fun h1 k1 => ?_) (by rw [List.size_toArray]; exact hv))
  have ev : its.toArray.toList = its := by simp
  refine wpAny_bind (wpAny_newList ?_ (by show its.toArray.toList.length ≤ _; rw [ev]; exact hv))
  rw [ev]
  have hoL : (h1.push (seqObj "list" its.toArray 0)).get? h1.objs.size = some (seqObj "list" its.toArray 0) := Heap.get?_push_size _ rfl
  refine wpAny_bind (wpAny_holding (wpAny_call_entry slot_list_sort ⟨_, hoL, rfl⟩ entry_list_sort (SrtO.list_sort_ord (SrtO.swo_lex fun v => k0 (backV v)) hoL hv (fun h2 => ?_) fun out hs hb => ⟨_, rfl, ?_⟩) (args_list_sort _)))
  · refine SrtO.pairs_sortableO (s := { s with heap := h1.push (seqObj "list" its.toArray 0) }) (k := fun v => k0 (backV v)) (by omega) (fun v hm => (hp v hm).keeps fun b o e _ => Heap.get?_push_of_some _ (k1 b o e)) fun o e => ?_
    have e' : some o = some (seqObj "list" its.toArray 0) := e.symm.trans hoL
    cases e'
    intro c
    exact absurd (Value.type.inj c) (by decide)
  · have hlen : its.length = l.length := by rw [← rv.length, pl.len]
    obtain ⟨T, t1, t2, t3⟩ := Sy.join_up (S := fun (_ : Value) (_ : Iv) => True) pl rv (kv := its) (p2_true hlen)
    have e1 : T.map (fun t => t.2.1) = its := by
      have := congrArg (List.map Prod.snd) t1
      rw [List.map_map, List.map_snd_zip (Nat.le_refl _)] at this
      exact this
    obtain ⟨T', u1, u2⟩ := Sy.perm_up (fun t : Value × Value × V × Iv => t.2.1) hb.perm T e1
    have t3' : ∀ t ∈ T', RelV t.2.2.1 t.2.1 ∧ PrV H t.2.2.1 t.2.2.2 := fun t ht => (t3 t (u1.mem_iff.mp ht)).2
    have hm : (T'.map fun t => t.2.2.2).Perm l := by
      rw [← t2]
      exact u1.map _
    have ls : (T'.map fun t => t.2.2.1).length ≤ sizeLine := by
      rw [List.length_map, ← List.length_map (f := fun t : Value × Value × V × Iv => t.2.2.2), hm.length_eq, ← pl.len]
      exact hz
    obtain ⟨n, hn⟩ := sortedHeap_at (vs := its) (out := out.toArray) hoL
    have rvs : Vals (T'.map fun t => t.2.2.1) out := by rw [← u2]; exact Sy.vals_map fun t ht => (t3' t ht).1
    have keep : ∀ b u, h1.get? b = some u → (sortedHeap (h1.push (seqObj "list" its.toArray 0)) h1.objs.size its out.toArray).get? b = some u := fun b u q => by
      have lt := Heap.lt_size q
      rw [sortedHeap_old (Nat.ne_of_lt lt) (by rw [size_push']; exact Nat.lt_succ_of_lt lt)]
      exact Heap.get?_push_of_some _ q
    have I1 : Inv X pins σ H { s with heap := h1 } := I.kept (t' := s.toks) k1
    refine wpAny_pure ⟨_, rfl, .ref _, upd H h1.objs.size (.lst (T'.map fun t => t.2.2.1)), I1.laid (t' := s.toks) keep (Nat.le_refl _) ⟨ls, out, n, rvs, hn⟩, rfl, q _ (T'.map fun t => t.2.2.2) _ (Sy.p2_map fun t ht => (t3' t ht).2) ?_ hm (I1.hok.fresh (Nat.le_refl _))⟩
    rw [← u2] at hs
    refine List.pairwise_map.mpr ((List.pairwise_map.mp hs).imp_of_mem fun {p q} hp hq z => ?_)
    have z1 := (tri _ _ _ (t3' p hp).2 (t3' p hp).1).1
    have z2 := (tri _ _ _ (t3' q hq).2 (t3' q hq).1).1
    have z3 : SrtO.lexB (k0 (backV q.2.1)) (k0 (backV p.2.1)) = false := z
    rw [z1, z2] at z3
    have := SrtO.lexB_no.mp z3
    unfold Pk.Lx
    omega
end Sz

/-! tuple[::-1] -/
namespace Dk
open PySem PySem.Spec PyProof.Rows L2 PySem.SeqAt PySem.W HT
section
variable {prog : Program} {w : World} {A : Around} {E : Value → Shared → Prop} {s : Shared}
theorem places_rev (n : Nat) : Builtin.Slice.slicePlaces ((n : Int) - 1) (-1) (-1) = n := by
  unfold Builtin.Slice.slicePlaces
  rw [if_neg (by decide)]
  by_cases h : (n : Int) - 1 > -1
  · rw [if_pos h]
    have : ((n : Int) - 1 - -1 - 1) / - -1 + 1 = (n : Int) := by
      rw [Int.neg_neg, Int.ediv_one]
      omega
    rw [this]
    rfl
  · rw [if_neg h]
    have : n = 0 := by omega
    rw [this]
    rfl
theorem sliceApplied_rev {sl : Addr} {vk : Value} {n : Nat} {Q : Int × Int × Nat → Shared → Prop} (hs : s.heap.IsSliceOf sl .none .none vk) (pk : IsPart vk (some (-1)))
    (h : Q ((n : Int) - 1, -1, n) s) : wpAny (model prog w) A (Builtin.Slice.sliceApplied (.ref sl) (pure (n : Int))) Q E s := by
  obtain ⟨os, hos, hcs, hds⟩ := id hs
  unfold Builtin.Slice.sliceApplied Builtin.Slice.sliceFields
  refine wpAny_bind (wpAny_bind (wpAny_field hos hds (x := .none) rfl (wpAny_bind (wpAny_field hos hds (x := .none) rfl (wpAny_bind (wpAny_field hos hds (x := vk) rfl (wpAny_pure ?_)))))))
  refine wpAny_bind (slicePart_ pk ?_)
  show wpAny _ _ (if ((-1 : Int) == 0) = true then _ else _) _ _ s
  rw [if_neg (by decide)]
  refine wpAny_bind (slicePart_ .none (wpAny_bind (slicePart_ .none (wpAny_bind (wpAny_pure ?_)))))
  show wpAny _ _ (pure ((n : Int) - 1, (-1 : Int), Builtin.Slice.slicePlaces ((n : Int) - 1) (-1) (-1))) _ _ s
  rw [places_rev]
  exact wpAny_pure h
theorem pick_rev (xs : Array Value) : ((List.range xs.size).filterMap fun (m : Nat) => xs[(((xs.size : Nat) : Int) - 1 + (m : Int) * -1).toNat]?).toArray = xs.toList.reverse.toArray := by
  have e : (fun (m : Nat) => xs[(((xs.size : Nat) : Int) - 1 + (m : Int) * -1).toNat]?) = fun m => xs[xs.size - 1 - m]? := by
    funext m
    have : (((xs.size : Nat) : Int) - 1 + (m : Int) * -1).toNat = xs.size - 1 - m := by omega
    rw [this]
  rw [e]
  congr 1
  have h1 : ((List.range xs.size).map (fun k => xs.size - 1 - k)).filterMap (xs[·]?) = xs.toList.reverse := by
    rw [krv_range, List.filterMap_reverse]
    congr 1
    exact krv_all xs
  rw [List.filterMap_map] at h1
  exact h1
theorem getItem_tuple_rev {t sl : Addr} {items : Array Value} {vk : Value} {Q : Value → Shared → Prop} (ht : IsTup s.heap t items) (hs : s.heap.IsSliceOf sl .none .none vk) (pk : IsPart vk (some (-1)))
    (h : Q (.ref s.heap.objs.size) { s with heap := s.heap.push { cls := .type "tuple", data := .seq items.toList.reverse.toArray } })
    (hsz : items.size ≤ sizeLine) : wpAny (model prog w) A (getItem (.ref t) (.ref sl)) Q E s := by
  have htake : sizeOk (.seq items.toList.reverse.toArray) := by
    show items.toList.reverse.toArray.size ≤ sizeLine
    rw [List.size_toArray, List.length_reverse, Array.length_toList]
    exact hsz
  obtain ⟨os, hos, hcs, hds⟩ := id hs
  have hTs : s.TypeIs (.ref sl) "slice" := ⟨os, hos, hcs⟩
  unfold getItem
  try with_reducible refine wpAny_holding ?_
  first | refine wpAny_bind (wpAny_pure ?_) | skip
  refine wpAny_bind (wpAny_sequenceKey ht.typeIs (by decide) ?_)
  refine wpAny_bind (wpAny_callSpecial?_slot (name := Str.ofString "__getitem__") ht.typeIs PyProof.Rows.slot_tuple_getitem
    (wpAny_call_entry PyProof.Rows.slot_tuple_getitem ht.typeIs entry_tuple_getitem ?_ (args_tuple_getitem _ _)))
  show wpAny _ _ (Builtin.Tuple.tupleItemsOf (.ref t) >>= _) _ _ s
  refine wpAny_bind (tupleItemsOf_ ht ?_)
  refine wpAny_bind (wpAny_typeOf hTs ?_)
  rw [if_pos (by decide)]
  refine wpAny_bind (sliceApplied_rev hs pk ?_)
  have hno : ¬ ((((items.size : Nat) : Int) - 1 == 0 && (-1 : Int) == 1 && items.size == items.size) = true) := by
    intro q
    rw [Bool.and_eq_true, Bool.and_eq_true] at q
    exact absurd q.1.2 (by decide)
  show wpAny _ _ (if (((items.size : Nat) : Int) - 1 == 0 && (-1 : Int) == 1 && items.size == items.size) = true then _ else _) _ _ s
  rw [if_neg hno, pick_rev]
  first
    | exact wpAny_bind (m := Builtin.Tuple.tupleExact _) (wpAny_newObj_type (wpAny_pure ⟨_, rfl, wpAny_pure h⟩) htake)
    | exact wpAny_bind (m := Builtin.Tuple.tupleExact _) (wpAny_newObj_type (wpAny_bind (wpAny_pure (wpAny_pure ⟨_, rfl, wpAny_pure h⟩))) htake)
    | exact wpAny_bind (wpAny_bind (m := Builtin.Tuple.tupleExact _) (wpAny_newObj_type (wpAny_pure (wpAny_pure ⟨_, rfl, wpAny_pure h⟩)) htake))
    | exact wpAny_bind (wpAny_bind (m := Builtin.Tuple.tupleExact _) (wpAny_newObj_type (wpAny_pure ⟨_, rfl, wpAny_pure h⟩) htake))
end
def tRevT (K : PySem.W.Frag) (te : TE) : TE := fun σ H Q => te σ H fun x H1 => ∃ a xs, x = .ref a ∧ SqT K H1 a xs ∧ ∀ p, H1 p = none → Q (.ref p) (upd H1 p (.tup xs.reverse))
theorem vals_rev : ∀ {xs : List V} {us : List Value}, Vals xs us → Vals xs.reverse us.reverse
  | _, _, .nil => .nil
  | _, _, .cons h t => by
    rw [List.reverse_cons, List.reverse_cons]
    exact (vals_rev t).append (.cons h .nil)
theorem pe_revT {X : Cx} {e st : Expr} {te ts : TE} {pos p2 : Pos} (he : PE X e te) (hst : PE X st ts) (hv : ∀ σ H (Q : VK), Q (.int (-1)) H → ts σ H Q) : PE X (.Subscript e (.Slice none none (some st) p2) pos) (tRevT X.K te) := by
  refine ⟨fun pins s σ H Q I h => ?_⟩
  refine Subscript_ (thn (he.run pins s σ H _ I h) fun v s1 ⟨x, H1, I1, r1, q1⟩ => ?_)
  obtain ⟨a, xs, rfl, hx, q⟩ := q1
  cases r1
  refine wpAny_Slice ?_
  rw [evalPart_none]
  refine wpAny_pure ?_
  refine wpAny_pure ?_
  rw [evalPart_some]
  refine thn (hst.run pins s1 σ H1 _ I1 (hv σ H1 (fun y H2 => y = .int (-1) ∧ H2 = H1) ⟨rfl, rfl⟩)) fun u s2 ⟨y, H2, I2, ry, qy, eH⟩ => ?_
  subst qy eH
  obtain ⟨tk, rfl⟩ := ry
  have I3 : Inv X pins σ H2 { s2 with heap := s2.heap.push { cls := .type "slice", data := .fields #[.none, .none, .int (-1) tk] } } := I2.kept (t' := s2.toks) fun b ob q => Heap.get?_push_of_some _ q
  obtain ⟨its, r, ht, hz⟩ := I3.tuple hx
  have hlen : its.toArray.size = xs.length := by rw [List.size_toArray]; exact r.length.symm
  show wpAny (model X.prog X.w) X.A (subscriptTail e (.Slice none none (some st) p2) (.ref a) (.ref s2.heap.objs.size)) (EP X pins σ Q) X.xe { s2 with heap := s2.heap.push { cls := .type "slice", data := .fields #[.none, .none, .int (-1) tk] } }
  refine tail_any (ops := [.ref a, .ref s2.heap.objs.size]) ht.typeIs PyProof.Rows.slot_tuple_getitem.lookup ?_ (by with_unfolding_all rfl)
  refine getItem_tuple_rev (s := { s2 with heap := s2.heap.push { cls := .type "slice", data := .fields #[.none, .none, .int (-1) tk] } }) ht ⟨_, Heap.get?_push_size _ rfl, rfl, rfl⟩ (.int (-1) tk) ?_ (by rw [hlen]; exact hz)
  refine ⟨.ref _, _, I3.laid (t' := s2.toks) (o := .tup xs.reverse) (fun b ob q => Heap.get?_push_of_some _ q) (Nat.le_refl _) ?_, rfl, q _ (I3.hok.fresh (Nat.le_refl _))⟩
  exact ⟨by rw [List.length_reverse]; exact hz, _, vals_rev r, IsTup.new _ _⟩
theorem r_revT {K : PySem.W.Frag} {te : TE} {σ : L2.St} {H : Hp} {Q : VK} (h : te σ H fun x H1 => ∃ a xs, x = .ref a ∧ SqT K H1 a xs ∧ ∀ p, H1 p = none → Q (.ref p) (upd H1 p (.tup xs.reverse))) : tRevT K te σ H Q := h
end Dk

/-! list[::-1] -/
namespace Dk
open PySem PySem.Spec PyProof.Rows L2 PySem.SeqAt PySem.W HT
def tRevL (K : PySem.W.Frag) (te : TE) : TE := fun σ H Q => te σ H fun x H1 => ∃ a xs, x = .ref a ∧ SqL K H1 a xs ∧ ∀ p, H1 p = none → Q (.ref p) (upd H1 p (.lst xs.reverse))
theorem pe_revL {X : Cx} {e st : Expr} {te ts : TE} {pos p2 : Pos} (he : PE X e te) (hst : PE X st ts) (hv : ∀ σ H (Q : VK), Q (.int (-1)) H → ts σ H Q) : PE X (.Subscript e (.Slice none none (some st) p2) pos) (tRevL X.K te) := by
  refine ⟨fun pins s σ H Q I h => ?_⟩
  refine Subscript_ (thn (he.run pins s σ H _ I h) fun v s1 ⟨x, H1, I1, r1, q1⟩ => ?_)
  obtain ⟨a, xs, rfl, hx, q⟩ := q1
  cases r1
  refine wpAny_Slice ?_
  rw [evalPart_none]
  refine wpAny_pure ?_
  refine wpAny_pure ?_
  rw [evalPart_some]
  refine thn (hst.run pins s1 σ H1 _ I1 (hv σ H1 (fun y H2 => y = .int (-1) ∧ H2 = H1) ⟨rfl, rfl⟩)) fun u s2 ⟨y, H2, I2, ry, qy, eH⟩ => ?_
  subst qy eH
  obtain ⟨tk, rfl⟩ := ry
  have I3 : Inv X pins σ H2 { s2 with heap := s2.heap.push { cls := .type "slice", data := .fields #[.none, .none, .int (-1) tk] } } := I2.kept (t' := s2.toks) fun b ob q => Heap.get?_push_of_some _ q
  obtain ⟨its, r, hl, hz⟩ := I3.list hx
  have ht := hl.isList
  show wpAny (model X.prog X.w) X.A (subscriptTail e (.Slice none none (some st) p2) (.ref a) (.ref s2.heap.objs.size)) (EP X pins σ Q) X.xe { s2 with heap := s2.heap.push { cls := .type "slice", data := .fields #[.none, .none, .int (-1) tk] } }
  refine tail_any (ops := [.ref a, .ref s2.heap.objs.size]) (Heap.IsList.typeIs (s := { s2 with heap := s2.heap.push { cls := .type "slice", data := .fields #[.none, .none, .int (-1) tk] } }) ht) list_getitem_lookup ?_ (by with_unfolding_all rfl)
  refine wpAny_getItem_list_slice (s := { s2 with heap := s2.heap.push { cls := .type "slice", data := .fields #[.none, .none, .int (-1) tk] } }) ht (Heap.IsSliceOf.new ..) .none .none (.int (-1) tk) (by decide) ?_ (by rw [List.size_toArray, ← r.length]; exact hz)
  rw [krv_pick]
  refine ⟨.ref _, _, I3.laid (t' := s2.toks) (o := .lst xs.reverse) (fun b ob q => Heap.get?_push_of_some _ q) (Nat.le_refl _) ?_, rfl, q _ (I3.hok.fresh (Nat.le_refl _))⟩
  exact ⟨by rw [List.length_reverse]; exact hz, its.reverse, 0, vals_rev r, Heap.get?_push_size _ rfl⟩
theorem r_revL {K : PySem.W.Frag} {te : TE} {σ : L2.St} {H : Hp} {Q : VK} (h : te σ H fun x H1 => ∃ a xs, x = .ref a ∧ SqL K H1 a xs ∧ ∀ p, H1 p = none → Q (.ref p) (upd H1 p (.lst xs.reverse))) : tRevL K te σ H Q := h
end Dk

/-! replace of written texts, where what comes before has made a token -/
namespace Dk
open PySem PySem.Spec PyProof.Rows L2 PySem.SeqAt PySem.W HT
/-- behind it a token is out -/
def PE1 (X : Cx) (e : Expr) (te : TE) : Prop := ∀ (pins : List (Addr × Obj)) (s : Shared) (σ : L2.St) (H : Hp) (Q : VK), Inv X pins σ H s → te σ H Q → wpAny (model X.prog X.w) X.A (eval e X.env) (fun v s' => 1 ≤ s'.toks ∧ EP X pins σ Q v s') X.xe s
def PO1 (X : Cx) (e : Option Expr) (te : TO) : Prop := ∀ (pins : List (Addr × Obj)) (s : Shared) (σ : L2.St) (H : Hp) (Q : Option Int → Hp → Prop), Inv X pins σ H s → te σ H Q →
  wpAny (model X.prog X.w) X.A (evalPart e X.env) (fun v s' => 1 ≤ s'.toks ∧ ∃ i H', Inv X pins σ H' s' ∧ IsPart v i ∧ Q i H') X.xe s
section
variable {X : Cx} {o e f : Expr} {te tf : TE} {to : TE} {pos p2 : Pos} {lo hi : Option Expr} {tl th : TO}
theorem pe1_int {i : Int} {j : Nat} : PE1 X (.Constant (.int i) j pos) (tC (.int i)) := fun _ s _ H _ I h => wpAny_Constant_int ⟨Nat.succ_le_succ (Nat.zero_le _), .int i, H, I.tok _, ⟨_, rfl⟩, h⟩
theorem pe1_op {op : Operator} {r : R2} (ho : OpR X (binaryOp op) r) (ha : PE X e te) (hb : PE1 X f tf) : PE1 X (.BinOp e op f pos) (tOp r te tf) := by
  intro pins s σ H Q I h
  refine wpAny_BinOp (thn (ha.run pins s σ H _ I h) fun v s1 ⟨x, H1, I1, r1, q1⟩ => thn (hb pins s1 σ H1 _ I1 q1) fun u s2 ⟨ht, y, H2, I2, r2, q2⟩ => ?_)
  exact wpAny_mono (PySem.wpAny_toks_of ht (ho pins s2 σ H2 x y v u Q I2 r1 r2 q2)) (fun _ _ z => z) fun _ _ z => z.2
theorem po1_some (h : PE1 X e te) : PO1 X (some e) (tPart te) := by
  intro pins s σ H Q I hw
  rw [evalPart_some]
  refine thn (h pins s σ H _ I hw) fun u s1 ⟨ht, x, H1, I1, r1, q1⟩ => ?_
  obtain ⟨i, rfl, q⟩ := q1
  obtain ⟨t, rfl⟩ := r1
  exact ⟨ht, some i, H1, I1, .int i t, q⟩
theorem pe1_sliceH {r : V → Option Int → Option Int → Hp → VK → Prop} (hr : SlR X r) (he : PE X e te) (hl : PO X lo tl) (hu : PO1 X hi th) : PE1 X (.Subscript e (.Slice lo hi none p2) pos) (tSl r te tl th) := by
  intro pins s σ H Q I h
  refine Subscript_ (thn (he.run pins s σ H _ I h) fun v s1 ⟨x, H1, I1, r1, q1⟩ => ?_)
  refine wpAny_Slice (thn (hl.run pins s1 σ H1 _ I1 q1) fun vl s2 ⟨l, H2, I2, pl, q2⟩ => thn (hu pins s2 σ H2 _ I2 q2) fun vu s3 ⟨ht, u, H3, I3, pu, q3⟩ => ?_)
  rw [evalPart_none]
  refine wpAny_pure ?_
  have I4 : Inv X pins σ H3 { s3 with heap := s3.heap.push { cls := .type "slice", data := .fields #[vl, vu, .none] } } := I3.kept (t' := s3.toks) fun b ob q => Heap.get?_push_of_some _ q
  obtain ⟨T, id, hT, hty, hg⟩ := hr pins { s3 with heap := s3.heap.push { cls := .type "slice", data := .fields #[vl, vu, .none] } } σ H3 x v vl vu l u s3.heap.objs.size Q I4 r1 (Heap.IsSliceOf.new ..) pl pu q3
  refine wpAny_mono (PySem.wpAny_toks_of (n := 1) (s := { s3 with heap := s3.heap.push { cls := .type "slice", data := .fields #[vl, vu, .none] } }) ht
    (show wpAny (model X.prog X.w) X.A (subscriptTail e (.Slice lo hi none p2) v (.ref s3.heap.objs.size)) (EP X pins σ Q) X.xe { s3 with heap := s3.heap.push { cls := .type "slice", data := .fields #[vl, vu, .none] } } from
      tail_any (ops := [.ref s3.heap.objs.size, v]) hty hT hg (by with_unfolding_all rfl))) (fun _ _ z => z) fun _ _ z => z.2
theorem pe1_sliceL {r : V → Option Int → Option Int → Hp → VK → Prop} (hr : SlR X r) (he : PE X e te) (hl : PO1 X lo tl) (hu : PO X hi th) : PE1 X (.Subscript e (.Slice lo hi none p2) pos) (tSl r te tl th) := by
  intro pins s σ H Q I h
  refine Subscript_ (thn (he.run pins s σ H _ I h) fun v s1 ⟨x, H1, I1, r1, q1⟩ => ?_)
  refine wpAny_Slice (thn (hl pins s1 σ H1 _ I1 q1) fun vl s2 ⟨h2, l, H2, I2, pl, q2⟩ => wpAny_mono (PySem.wpAny_toks_of h2 (hu.run pins s2 σ H2 _ I2 q2)) (fun vu s3 ⟨ht, u, H3, I3, pu, q3⟩ => ?_) fun _ _ z => z.2)
  rw [evalPart_none]
  refine wpAny_pure ?_
  have I4 : Inv X pins σ H3 { s3 with heap := s3.heap.push { cls := .type "slice", data := .fields #[vl, vu, .none] } } := I3.kept (t' := s3.toks) fun b ob q => Heap.get?_push_of_some _ q
  obtain ⟨T, id, hT, hty, hg⟩ := hr pins { s3 with heap := s3.heap.push { cls := .type "slice", data := .fields #[vl, vu, .none] } } σ H3 x v vl vu l u s3.heap.objs.size Q I4 r1 (Heap.IsSliceOf.new ..) pl pu q3
  refine wpAny_mono (PySem.wpAny_toks_of (n := 1) (s := { s3 with heap := s3.heap.push { cls := .type "slice", data := .fields #[vl, vu, .none] } }) ht
    (show wpAny (model X.prog X.w) X.A (subscriptTail e (.Slice lo hi none p2) v (.ref s3.heap.objs.size)) (EP X pins σ Q) X.xe { s3 with heap := s3.heap.push { cls := .type "slice", data := .fields #[vl, vu, .none] } } from
      tail_any (ops := [.ref s3.heap.objs.size, v]) hty hT hg (by with_unfolding_all rfl))) (fun _ _ z => z) fun _ _ z => z.2
variable {y z : Str} {j k : Nat} {c0 c1 apos : Pos}
theorem pe_repl1 (ho : PE1 X o to) (hyz : (y == z) = false := by decide)
    (hst : starEach [.Constant (.str y) j c0, .Constant (.str z) k c1] X.env = [(false, eval (.Constant (.str y) j c0) X.env), (false, eval (.Constant (.str z) k c1) X.env)] := by rfl)
    (hbase : attributeBase o "replace" X.env (eval o X.env) = eval o X.env := by rfl) (hline : (apos.endLine == pos.line) = true := by rfl) :
    PE X (.Call (.Attribute o "replace" apos) [.Constant (.str y) j c0, .Constant (.str z) k c1] [] pos) (CwR.tReplC to y z) := by
  refine ⟨fun pins s σ H Q I h => ?_⟩
  refine PySem.Call_method2 hbase hst hline (wpAny_mono (ho pins s σ H _ I h) (fun v s1 q => ?_) fun _ _ z => z)
  obtain ⟨hk, v', H1, I1, r1, x, e1, hb, q⟩ := q
  subst e1
  obtain ⟨tx, e2⟩ := r1
  subst e2
  refine ⟨"str", _, PySem.F.plainAttrs_str, PySem.F.slot_str_replace, PySem.F.type_str_replace, typeIs_str _ _ _, (fun _ e => nomatch e), Calls.callWith_builtin rfl (Calls.evalArgs_plain (Calls.spliced_cons ?_))⟩
  refine Calls.Constant_str (Calls.spliced_cons (Calls.Constant_str (Calls.spliced_nil ?_)))
  exact PySem.SC.replace (by show s1.toks ≠ 0; omega) (by show s1.toks + 1 ≠ 0; omega) (by show s1.toks ≠ s1.toks + 1; omega) hyz hb fun t' k => ⟨.str (Txt.replace x y z), H1, I1.tok k, ⟨t', rfl⟩, q⟩
end
end Dk

/-! calls behind which a token is out -/
namespace Dk
open PySem PySem.Spec PyProof.Rows L2
/-- arguments, one of which makes a token -/
def PA1 (X : Cx) (es : List Expr) (t : TA) : Prop := ∀ (pos : Pos) (pins : List (Addr × Obj)) (s : Shared) (σ : L2.St) (H : Hp) (Q : List V → Hp → Prop), Inv X pins σ H s → t σ H Q →
  wpAny (model X.prog X.w) X.A (spliced (backTo pos (starEach es X.env))) (fun us s' => 1 ≤ s'.toks ∧ AP X pins σ Q us s') X.xe s
section
variable {X : Cx} {e : Expr} {es : List Expr} {te : TE} {t : TA}
theorem pa1_here (ha : PE1 X e te) (hr : PA X es t) (hs : starEach (e :: es) X.env = (false, eval e X.env) :: starEach es X.env := by rfl) : PA1 X (e :: es) (tCons te t) := by
  intro pos pins s σ H Q I h
  rw [hs]
  refine Calls.spliced_cons (thn (ha pins s σ H _ I h) fun u s1 ⟨ht, x, H1, I1, r1, q1⟩ => ?_)
  exact wpAny_mono (PySem.wpAny_toks_of ht (hr.run pos pins s1 σ H1 _ I1 q1)) (fun us s2 ⟨h2, xs, H2, I2, r2, q2⟩ => ⟨h2, x :: xs, H2, I2, .cons r1 r2, q2⟩) fun _ _ z => z.2
theorem pa1_later (ha : PE X e te) (hr : PA1 X es t) (hs : starEach (e :: es) X.env = (false, eval e X.env) :: starEach es X.env := by rfl) : PA1 X (e :: es) (tCons te t) := by
  intro pos pins s σ H Q I h
  rw [hs]
  refine Calls.spliced_cons (thn (ha.run pins s σ H _ I h) fun u s1 ⟨x, H1, I1, r1, q1⟩ => ?_)
  exact thn (hr pos pins s1 σ H1 _ I1 q1) fun us s2 ⟨h2, xs, H2, I2, r2, q2⟩ => ⟨h2, x :: xs, H2, I2, .cons r1 r2, q2⟩
variable {CX : CXT} {k : Nat} {f : Addr} {fd : FuncData} {ps : List Str} {sp : Sp} {E : XK} {x : Str} {p pos : Pos} {ds : List Value} {dvs : List V}
theorem pe1_call (F : FnOk X.prog X.w X.K X.mg X.base CX k f fd ps sp) (hr : Room k X.A) (hg : Gl X x) (hm : X.mg x = some (.ref f)) (hk : PySem.W.keepIn X.K (.ref f) = true) (hb : Binds X.K fd ps ds) (hd : Vals dvs ds) (hx : Passes CX X E)
    (ha : PA1 X (e :: es) t) (hdb : (x == ("__debug__" : Str)) = false := by decide) (he : starEach (e :: es) X.env = (false, eval e X.env) :: starEach es X.env := by rfl) (hpl : (backTo pos (starEach es X.env)).any (·.1) = false := by rfl) :
    PE1 X (.Call (.Name x p) (e :: es) [] pos) (tCall sp dvs E t) := by
  intro pins s σ H Q I h
  refine wpAny_Call_Name_kw (ld_glob I hg hm ?_ hdb)
  refine PySem.W.callWith_K (h₀ := X.base) I.ok.mod.kin hk (thn (ha pos pins s σ H _ I h) fun us s1 ⟨ht, vs, H1, I1, r, q⟩ => ⟨I1.kIn, ?_⟩) he hpl
  exact wpAny_mono (PySem.wpAny_toks_of ht (run_fn F hr hb hd hx I1 r q)) (fun _ _ z => z) fun _ _ z => z.2
end
end Dk

/-! defs called within an except suite (that never raise there) -/
namespace Dk
open PySem PySem.Spec PyProof.Rows L2
/-- what such a def promises: p's object is the exception that is handled -/
structure FnH0 (P : Program) (w : World) (K : PySem.W.Frag) (mg : Str → Option Value) (base : Heap) (k : Nat) (f : Addr) (fd : FuncData) (ps : List Str) (sp : Sp) : Prop where
  len : ∀ vs H Q E, sp vs H Q E → vs.length = ps.length
  run : ∀ (A : Around) (outer : List Env) (s : Shared) (H : Hp) (args : Args) (us : List Value) (vs : List V) (Q : VK) (E : XK) (p : Addr × Obj), L2H.RoomH k A → A.handled = some (.ref p.1) → L2H.PinOk outer H s p → Env0 P w K mg base A outer s H → BindsTo s fd args (ps.zip us) → Vals vs us → sp vs H Q E →
    codeAny (model P w) A (.call (.ref f) args) (CR CX0 outer P w H s Q E) s
section
variable {P : Program} {w : World} {K : PySem.W.Frag} {mg : Str → Option Value} {base : Heap}
theorem fn_ofH0 {k : Nat} {f : Addr} {name qual : Str} {params : Arguments} {body : List Stmt} {scope : Scope} {dV kV doc pm cdv ct oc : Value} {an od : Option Addr}
    {osl : Array (Option Value)} {N ps : List Str} {sp : Sp} (lk : K.lookup f = some ⟨oc, od, .func (PySem.W.fnOf name qual params body scope dV kV doc pm an cdv ct), osl⟩) (hcd : PySem.W.codeIn K cdv qual = true) (S : FnScope N ps scope)
    (len : ∀ vs H Q E, sp vs H Q E → vs.length = ps.length)
    (hbody : ∀ (A : Around) (outer : List Env) (s : Shared) (H : Hp) (vs : List V) (Q : VK) (E : XK) (p : Addr × Obj), A.handled = some (.ref p.1) → L2H.RoomH k (A.deeper (envOfC qual scope s.heap.objs.size f cdv)) → sp vs H Q E →
      ∃ t, PSs (L2H.cxH CX0 P w K mg base N qual scope f cdv A outer s H E p) body t ∧ t { nx := fun _ H' => Q .non H', rt := Q } (L2.start N vs) H) :
    FnH0 P w K mg base (k + 1) f (PySem.W.fnOf name qual params body scope dV kV doc pm an cdv ct) ps sp := by
  refine ⟨len, fun A outer s H args us vs Q E p hr hot hpin e0 hb r hsp => ?_⟩
  have hl := len _ _ _ _ hsp
  have KX : K.In s.heap := e0.mod.kin.keeps fun b o e => (e0.bs b o e).1
  have lim : s.heap.NoLimit := e0.mod.nolimit.keeps fun b o e => (e0.bs b o e).1
  have hkind : ∀ y ∈ ps.zip us, scope.names.lookup y.1 = some .local ∨ (scope.names.lookup y.1 = some .cell ∧ ((cellsFrom (s.heap.objs.size + 1) scope.names []).lookup y.1).isSome = true) := fun ⟨n, v⟩ hy => by
    rcases S.par n (List.of_mem_zip hy).1 with q | q
    · exact .inl q
    · exact .inr ⟨q, PySem.W.cellsFrom_some _ _ _ (.inl q)⟩
  refine codeAny_call_function hr.depth (KX _ _ lk) rfl S.co S.gen rfl (PySem.W.codeRec_of KX hcd) (hb _ _ _ _ ?_)
  refine wpAny_newFunctionEnv_cells S.kind hkind fun env he s1 x => ?_
  subst he
  refine ⟨lim.keeps x.toInCall.keep, codeAny_func ?_⟩
  obtain ⟨t, ht, hq⟩ := hbody A outer s H vs Q E p hot (hr.deeper _) hsp
  have I : Inv (L2H.cxH CX0 P w K mg base N qual scope f cdv A outer s H E p) [] (L2.start N vs) H s1 := L2H.inv_startH S hpin e0 hl r x
  refine wpAny_mono (ht.run [] s1 (L2.start N vs) H _ I hq) (fun fl s' hs => ?_) fun e s' hs => hs
  have fin : ∀ {σ' : L2.St} {H' : Hp} {v : V} {u : Value}, Inv (L2H.cxH CX0 P w K mg base N qual scope f cdv A outer s H E p) [] σ' H' s' → RelV v u → Q v H' → CE outer P w H s Q u s' :=
    fun {σ' H' v u} J rv q => ⟨v, H', J.os, J.bare, J.base, J.hok, rv, q⟩
  cases fl with
  | ret u =>
    obtain ⟨v, σ', H', J, rv, q⟩ := hs
    exact fin J rv q
  | next =>
    obtain ⟨σ', H', J, q⟩ := hs
    exact fin (v := V.non) (u := Value.none) J rfl q
  | brk =>
    obtain ⟨_, _, _, q⟩ := hs
    exact False.elim q
  | cont =>
    obtain ⟨_, _, _, q⟩ := hs
    exact False.elim q
theorem fun_okH {x qual : Str} {st : Stmt} {f : Addr} {fd : FuncData} {N ps : List Str} {k : Nat} {sp : Sp} (F : Fun K x qual st f fd) (S : FnScope N ps (defScope st)) (len : ∀ vs H Q E, sp vs H Q E → vs.length = ps.length)
    (hbody : ∀ (cdv : Value) (A : Around) (outer : List Env) (s : Shared) (H : Hp) (vs : List V) (Q : VK) (E : XK) (p : Addr × Obj), A.handled = some (.ref p.1) → L2H.RoomH k (A.deeper (envOfC qual (defScope st) s.heap.objs.size f cdv)) → sp vs H Q E →
      ∃ t, PSs (L2H.cxH CX0 P w K mg base N qual (defScope st) f cdv A outer s H E p) (defBody st) t ∧ t { nx := fun _ H' => Q .non H', rt := Q } (start N vs) H) : FnH0 P w K mg base (k + 1) f fd ps sp := by
  obtain ⟨oc, od, kV, doc, pm, an, cdv, ct, osl, rfl, lk, hcd⟩ := F.ex
  exact fn_ofH0 lk hcd S len fun A outer s H vs Q E p h1 h2 hsp => hbody cdv A outer s H vs Q E p h1 h2 hsp
end
section
variable {X : Cx} {k : Nat} {f : Addr} {fd : FuncData} {ps : List Str} {sp : Sp} {x : Str} {q pos : Pos} {e : Expr} {es : List Expr} {t : TA} {p : Addr × Obj}
theorem pe_callH0 (F : FnH0 X.prog X.w X.K X.mg X.base k f fd ps sp) (hr : L2H.RoomH k X.A) (hh : X.A.handled = some (.ref p.1)) (hp : p ∈ X.pn) (hg : Gl X x) (hm : X.mg x = some (.ref f)) (hk : PySem.W.keepIn X.K (.ref f) = true) (hb : Binds X.K fd ps [])
    (ha : PA X (e :: es) t) (hdb : (x == ("__debug__" : Str)) = false := by decide) (he : starEach (e :: es) X.env = (false, eval e X.env) :: starEach es X.env := by rfl) (hpl : (backTo pos (starEach es X.env)).any (·.1) = false := by rfl) :
    PE X (.Call (.Name x q) (e :: es) [] pos) (fun σ H Q => t σ H fun vs H1 => sp vs H1 Q (fun _ _ _ => False)) := by
  refine ⟨fun pins s σ H Q I h => ?_⟩
  refine wpAny_Call_Name_kw (ld_glob I hg hm ?_ hdb)
  refine PySem.W.callWith_K (h₀ := X.base) I.ok.mod.kin hk (thn (ha.run pos pins s σ H _ I h) fun us s1 ⟨vs, H1, I1, r, q⟩ => ⟨I1.kIn, ?_⟩) he hpl
  have hl : us.length = ps.length := by rw [← r.length]; exact F.len _ _ _ _ q
  have b := hb s1 us I1.kIn (by rw [List.append_nil]; exact hl)
  rw [List.append_nil] at b
  have P1 := I1.pin p (List.mem_append_left _ hp)
  have hpin : L2H.PinOk X.stack H1 s1 p := ⟨P1.1, P1.2.1, fun hm => (List.mem_cons.mp (I1.stkSub p.1 hm)).elim P1.2.2.1 P1.2.2.2.1, P1.2.2.2.2⟩
  refine wpAny_call (codeAny_mono (F.run X.A X.stack s1 H1 ⟨us, []⟩ us vs Q _ p hr hh hpin I1.env0 b r q) fun r s' hq => ?_)
  cases r with
  | error e => exact False.elim hq
  | ok fl =>
    cases fl with
    | ret u => exact I1.after hq
    | next => exact False.elim hq
    | brk => exact False.elim hq
    | cont => exact False.elim hq
end
theorem roomS {X : Cx} {a : Addr} {k : Nat} {pn : List (Addr × Obj)} (h : Room k X.A) : L2H.RoomH k (X.suite a pn).A := ⟨h.dp, h.un⟩
end Dk

/-! errors with a field that are raised where nothing is handled, and told so; raised again within an except suite -/
namespace Hn
open PySem PySem.Spec PyProof.Rows L2 Dk
theorem _root_.L2H.RoomH.units {k : Nat} {A : Around} (r : L2H.RoomH k A) : A.units + 64 < cLine := by
  have := r.un
  omega
theorem passN {X : Cx} : Passes (L2N.CX X.prog X.w) X E0 := fun _ _ _ _ _ _ _ h => by
  obtain ⟨_, _, _, _, _, _, _, _, _, _, _, _, z⟩ := h
  exact False.elim z
theorem takesN {X : Cx} : L2N.Takes X (fun _ _ _ _ => False) := fun _ _ h => by
  obtain ⟨_, _, _, _, _, _, _, _, _, _, _, _, _, _, _, _, z⟩ := h
  exact False.elim z
section
variable {P : Program} {w : World} {K : PySem.W.Frag} {mg : Str → Option Value} {base : Heap} {x qual : Str} {st : Stmt} {f : Addr} {fd : FuncData} {N ps : List Str} {k : Nat} {sp : Sp}
theorem okN (F : Fun K x qual st f fd) (S : FnScope N ps (defScope st)) (len : ∀ vs H Q E, sp vs H Q E → vs.length = ps.length)
    (hb : ∀ (cdv : Value) (A : Around) (outer : List Env) (s : Shared) (H : Hp) (vs : List V) (Q : VK) (E : XK), Room k (A.deeper (envOfC qual (defScope st) s.heap.objs.size f cdv)) → sp vs H Q E →
      ∃ t, PSs (cxOf (L2N.CX P w) P w K mg base N qual (defScope st) f cdv A outer s H E) (defBody st) t ∧ t { nx := fun _ H' => Q .non H', rt := Q } (start N vs) H) : FnOk P w K mg base (L2N.CX P w) (k + 1) f fd ps sp := by
  obtain ⟨_, _, _, _, _, _, _, _, _, rfl, lk, hcd⟩ := F.ex
  exact fn_of lk hcd S len fun A outer s H vs Q E hr h => hb _ A outer s H vs Q E hr h
theorem okHX {CX : CXT} (F : Fun K x qual st f fd) (S : FnScope N ps (defScope st)) (len : ∀ vs H Q E, sp vs H Q E → vs.length = ps.length)
    (hb : ∀ (cdv : Value) (A : Around) (outer : List Env) (s : Shared) (H : Hp) (vs : List V) (Q : VK) (E : XK) (p : Addr × Obj), L2H.Hot1 A p → L2H.RoomH k (A.deeper (envOfC qual (defScope st) s.heap.objs.size f cdv)) → sp vs H Q E →
      ∃ t, PSs (L2H.cxH CX P w K mg base N qual (defScope st) f cdv A outer s H E p) (defBody st) t ∧ t { nx := fun _ H' => Q .non H', rt := Q } (start N vs) H) : L2H.FnH P w K mg base CX (k + 1) f fd ps sp := by
  obtain ⟨_, _, _, _, _, _, _, _, _, rfl, lk, hcd⟩ := F.ex
  exact L2H.fn_ofH lk hcd S len fun A outer s H vs Q E p h1 h2 h => hb _ A outer s H vs Q E p h1 h2 h
end
/-- the caught error of a suite is one that others can be raised beside -/
theorem hotS {X : Cx} {a : Addr} {oe : Obj} {cls : Value} {d : Option Addr} {pn : List (Addr × Obj)} (hz : L2N.Zn cls d oe) (hf : ∃ vs, oe.data = .fields vs) : L2H.HotC (X.suite a ((a, oe) :: pn)) := by
  obtain ⟨vs, hv⟩ := hf
  exact ⟨(a, oe), ⟨rfl, vs, hv, hz.2.2 vs hv⟩, List.mem_cons_self ..⟩
section
variable {X : Cx} {CX : CXT} {k : Nat} {C fI : Addr} {fd : FuncData} {ps : List Str} {sp : Sp} {x : Str} {p pos : Pos} {e : Expr} {es : List Expr} {ta : TA}
/-- C(e, ..), C an own error with fields; its context is None -/
theorem pmk_oexN (T : OexC X.K C) (iC : PySem.W.findIn X.K (.ref C) "__init__" = some (some (.ref fI))) (tI : PySem.W.typeIn X.K (.ref fI) = some (.type "function")) (F : FnOk X.prog X.w X.K X.mg X.base CX k fI fd ps sp) (hr : Room (k + 1) X.A) (hb : Binds X.K fd ps [])
    (hx : Passes CX X (fun _ _ _ => False)) (hg : Gl X x) (hm : X.mg x = some (.ref C)) (ha : PA X (e :: es) ta) (hdb : (x == ("__debug__" : Str)) = false := by decide)
    (he : starEach (e :: es) X.env = (false, eval e X.env) :: starEach es X.env := by rfl) (hpl : (backTo pos (starEach es X.env)).any (·.1) = false := by rfl) : L2N.PMk X (.Call (.Name x p) (e :: es) [] pos) (tMkO C sp [] ta) := by
  intro pins s σ H Q I h
  obtain ⟨_, _, N, _, bm, _, _, _, _, _, _, _, _, _, _, hC, hbm⟩ := T.cls
  refine wpAny_Call_Name_kw (ld_glob I hg hm ?_ hdb)
  refine PySem.W.callWith_K (h₀ := X.base) I.ok.mod.kin T.kC (thn (ha.run pos pins s σ H _ I h) fun us s1 ⟨vs, H1, I1, r1, hz, q1⟩ => ⟨I1.kIn, ?_⟩) he hpl
  show wpAny _ _ (call (.ref C) us) _ _ _
  obtain ⟨hp, g, dr, tk, os⟩ := s1
  generalize hm1 : hp.objs.size = m
  have ge : hp.objs.size ≤ m + 1 := by omega
  have q2 := q1 (m + 1) (I1.hok.fresh ge)
  rw [List.append_nil] at q2
  obtain ⟨g2, hg2⟩ : ∃ g2, g2 = (hp.push (PySem.W.kdv_tup us)).push (PySem.HandSPX.excO C m) := ⟨_, rfl⟩
  have up : ∀ b o, hp.get? b = some o → g2.get? b = some o := fun b o z => by rw [hg2]; exact Heap.get?_push_of_some _ (Heap.get?_push_of_some _ z)
  have at1 : g2.get? (m + 1) = some (PySem.HandSPX.excO C m) := by rw [hg2, ← hm1]; heap_get
  have I2 : Inv X pins σ (upd H1 (m + 1) (exo (m + 1) C none)) ⟨g2, g, dr, tk, os⟩ := I1.laid (t' := tk) (o := exo (m + 1) C none) up ge (exo_ok at1)
  have rr : Vals (V.ref (m + 1) :: vs) (Value.ref (m + 1) :: us) := .cons rfl r1
  have hl : (Value.ref (m + 1) :: us ++ []).length = ps.length := by
    rw [List.append_nil, ← rr.length]
    exact F.len _ _ _ _ q2
  have small : us.length ≤ sizeLine := by rw [← r1.length, sizeLine_eq]; omega
  have b2 := hb ⟨g2, g, dr, tk, os⟩ (Value.ref (m + 1) :: us) I2.kIn hl
  rw [List.append_nil] at b2
  have go := F.run (X.A.under (.builtin "type.__call__" ⟨.ref C :: us, []⟩)) X.stack _ _ ⟨Value.ref (m + 1) :: us, []⟩ _ _ _ _ (hr.make C us []) (I2.env0.make C us []) b2 rr q2
  rw [hg2] at go
  subst hm1
  refine wpAny_call (PySem.HandSPX.call_own PySem.F.excBase_ValueError (fun Y => PySem.HandSPX.refsVE_contains Y bm hbm) (I1.kIn _ _ hC) (PySem.W.looks_findIn I1.kIn iC) (fun self => PySem.W.bind_fn I1.kIn self tI) small
    (codeAny_mono go fun r s' hq => ?_))
  cases r with
  | error er => rw [← hg2] at hq; exact hx pins σ _ _ er s' I2 hq
  | ok fl =>
    cases fl with
    | next => exact False.elim hq
    | brk => exact False.elim hq
    | cont => exact False.elim hq
    | ret u =>
      rw [← hg2] at hq
      obtain ⟨v, H2, w1, w2, w3, w4, rv, ev, d, fs, w5, w6, w7, w8⟩ := hq
      subst ev
      obtain ⟨h2, g3, d3, t3, os3⟩ := s'
      obtain ⟨t0, G, J, kG, gn, ho, na⟩ := mk_end0 (d2 := d3) (t2 := t3) I1 ge up w3 w4 w1 w2 w5 w6 w7
      refine ⟨rv, hp.objs.size + 1, _, _, ⟨G, g3, d3, t3, os3⟩, _, .ref C, some d, rfl, J, kG, gn, ho, ⟨rfl, rfl, fun vs hv => ?_⟩, rfl, rfl, na, rfl, w2, raises_own T.exC T.tyC, w8⟩
      cases hv
      rfl
end
/-- the inner try of a suite; its reading does not name the suite's frame -/
theorem try_asH {X : Cx} {K : PySem.W.Frag} {x n : Str} {c : Value} {i : Nat} {body su : List Stmt} {b0 : Stmt} {np p1 p2 : Pos} {tb : WX → TS} {ts : Addr → Value → Option Addr → TS} {Wout : WX} (hK : X.K = K)
    (h1 : X.stack = X.env :: X.outer) (h2 : X.env.frame = some X.env.locals) (h3 : X.N.Nodup) (h4 : X.N[i]? = some n) (h5 : X.env.kindOf n = some .local) (h6 : Names X x c) (tk : Takes X Wout)
    (hb : ∀ (W : WX) (pn : List (Addr × Obj)) (xe : Value → Shared → Prop), (∀ q ∈ X.pn, q ∈ pn) → Takes (X.tr pn xe) W → PassesOwn (model X.prog X.w) X.A X.env xe → PSs (X.tr pn xe) body (tb W))
    (hs : ∀ (a : Addr) (oe : Obj) (cls : Value) (d : Option Addr) (pn : List (Addr × Obj)), Zc cls d oe → (∃ vs, oe.data = .fields vs) → PSs (X.suite a ((a, oe) :: pn)) (b0 :: su) (ts a cls d)) :
    PS X (.Try body [.ExceptHandler (some (.Name x np)) (some n) (b0 :: su) p1] [] [] p2) (fun D σ H => tb (wAs K c i ts Wout D) D σ H) := by
  subst hK
  exact L2H.ps_try_asH h1 h2 h3 h4 h5 h6 tk hb hs
end Hn

/-! list(text), tuple(text) -/
namespace Lx
open PySem PySem.Spec PyProof.Rows L2 Dk
section
variable {prog : Program} {w : World} {A : Around} {E : Value → Shared → Prop} {s : Shared} {x : Str} {t : Tok}
theorem hint {Q : Bool → Shared → Prop} (q : Q false s) : wpAny (model prog w) A (Builtin.List.listLengthHint (.str x t)) Q E s := by
  have ty := typeIs_str s x t
  unfold Builtin.List.listLengthHint
  refine wpAny_bind (wpAny_specialOf ty PySem.F.slot_str_len.lookup ?_)
  generalize hid : ("str.__len__" : String) = n0
  wp_delta
  rw [show splitId n0 = some ("str", "__len__") from by subst hid; decide +kernel]
  subst hid
  refine wpAny_bind (wpAny_isInstance (T := "str") (b := true) ty (by rw [isSubtype_type]; kernel_rfl) ?_)
  refine wpAny_ite_split (fun z => absurd z (by decide)) fun _ => ?_
  refine wpAny_ite_split (fun _ => ?_) fun z => absurd (by decide +kernel) z
  exact wpAny_bind (wpAny_typeOf ty (wpAny_pure q))
/-- an empty list takes a text's signs -/
theorem grows {R : Result → Shared → Prop} (hh : A.handled = none) (hn : x.cps.size ≤ sizeLine) (p : Addr) (res : Value) (k : Nat) (hp : s.heap.get? p = some { cls := .type "list", data := .seq #[] k })
    (hR : ∀ h' tk acc c, (∀ b o, b ≠ p → s.heap.get? b = some o → h'.get? b = some o) → h'.get? p = some { cls := .type "list", dict := none, data := .seq acc c, slots := #[] } → ItemsOf (SignAt x) acc x.cps.size → R (.ok (.ret res)) { s with heap := h', toks := tk }) :
    wpAny (model prog w) A.in1 (Builtin.List.listExtendWith (.ref p) (.str x t) res)
      (fun fin s' => match fin with | .done f => R (.ok f) s' | .again c => c.quiet = true ∧ codeAny (model prog w) A c R s') (fun e s' => R (.error e) s') s := by
  have lt := Heap.lt_size hp
  have nf : p ∉ [s.heap.objs.size] := fun z => Nat.ne_of_lt lt (List.mem_singleton.mp z)
  unfold Builtin.List.listExtendWith
  refine wpAny_bind (wpAny_typeOf (typeIs_str s x t) ?_)
  have g1 : Builtin.List.listSameRef (.ref p) (.str x t) = false := rfl
  have g2 : (Value.type "str" == Value.type "list") = false := by decide
  have g3 : (Value.type "str" == Value.type "tuple") = false := by decide
  simp only [g1, g2, g3, Bool.or_false, Bool.false_eq_true, if_false]
  refine wpAny_bind (wpAny_pyIter_str fun o St hW st => ?_)
  refine wpAny_bind (wpAny_holding (hint ?_))
  rw [if_neg (by first | decide | decide +kernel)]
  have W := hW A.in1 hh
  refine wpAny_pure ⟨plainId_quiet PySem.F.plain_extend_loop _, codeAny_extend_loopS W.toS hn _ nf _ x.cps.size 0 _ _ _ rfl (Nat.zero_le _) st (Heap.get?_push_of_some _ hp) (ItemsOf.nil _) fun s' acc c hm h1 h2 => ?_⟩
  rw [Moved.eq_with hm]
  refine hR s'.heap s'.toks acc c (fun b ob nb e => hm.heap b ob (fun z => ?_) (Heap.get?_push_of_some _ e)) h1 h2
  rcases List.mem_cons.mp z with z | z
  · exact nb z
  · exact absurd (Heap.lt_size e) (by rw [List.mem_singleton.mp z]; exact Nat.lt_irrefl _)
theorem list_call {Q : Value → Shared → Prop} (hh : A.handled = none) (hn : x.cps.size ≤ sizeLine)
    (hQ : ∀ h' tk acc c, (∀ b o, s.heap.get? b = some o → h'.get? b = some o) → h'.get? s.heap.objs.size = some { cls := .type "list", dict := none, data := .seq acc c, slots := #[] } → ItemsOf (SignAt x) acc x.cps.size → Q (.ref s.heap.objs.size) { s with heap := h', toks := tk }) :
    wpAny (model prog w) A (call (.type "list") [.str x t]) Q E s := by
  refine callType_codes (Q₁ := fun obj s1 => obj = .ref s.heap.objs.size ∧ s1 = { s with heap := s.heap.push { cls := .type "list", data := .seq #[] } }) PySem.F.called_list (PySem.F.typeCall_list_1 _) PySem.F.entry_list_init
    (code_list_new _ ⟨rfl, rfl⟩) fun obj s1 h1 => ?_
  obtain ⟨rfl, rfl⟩ := h1
  have hp : (s.heap.push { cls := .type "list", data := .seq #[] }).get? s.heap.objs.size = some { cls := .type "list", data := .seq #[] } := Heap.get?_push_size _ rfl
  refine ⟨⟨_, hp, rfl⟩, PySem.F.args_list_init_2 _ _, ?_⟩
  show wpAny _ _ (do let old ← Builtin.List.listItems (.ref s.heap.objs.size); Builtin.List.listUpdate (.ref s.heap.objs.size) (fun _ => #[]); letGo old.toList.reverse; Builtin.List.listExtendWith (.ref s.heap.objs.size) (.str x t) .none) _ _ _
  refine wpAny_bind ?_
  unfold Builtin.List.listItems
  refine wpAny_bind (wpAny_seqItems hp rfl (wpAny_pure ?_))
  show wpAny _ _ (updateSeq s.heap.objs.size (fun _ => #[]) >>= fun _ => letGo (#[] : Array Value).toList.reverse >>= fun _ => Builtin.List.listExtendWith (.ref s.heap.objs.size) (.str x t) .none) _ _ _
  refine wpAny_bind (wpAny_updateSeq hp rfl (wpAny_bind (wpAny_letGo ?_)))
  refine grows (A := A.in1) hh hn _ .none _ (Heap.get?_update_self (Obj.mapSeq (fun _ => (#[] : Array Value))) hp rfl) fun h' tk acc c k1 k2 k3 => ⟨rfl, hQ h' tk acc c (fun b o e => ?_) k2 k3⟩
  have nb := Nat.ne_of_lt (Heap.lt_size e)
  exact k1 b o nb ((Heap.get?_update_other _ _ (Ne.symm nb)).trans (Heap.get?_push_of_some _ e))
theorem gathers {Q : List Value → Shared → Prop} (hh : A.handled = none) (hn : x.cps.size ≤ sizeLine)
    (hQ : ∀ (h' : Heap) (tk : Nat) (acc : Array Value), (∀ b o, s.heap.get? b = some o → h'.get? b = some o) → ItemsOf (SignAt x) acc x.cps.size → Q acc.toList { s with heap := h', toks := tk }) :
    wpAny (model prog w) A (collect (.str x t)) Q E s := by
  unfold collect
  refine wpAny_bind (wpAny_runValue (codeAny_builtin PySem.F.entry_proto_collect ?_))
  rw [Around.under_plainId PySem.F.plain_proto_collect _]
  show wpAny _ A.in1 (newList [] >>= fun l => again (.builtin "list.__iadd__" ⟨[l, .str x t], []⟩)) _ _ s
  refine wpAny_bind (wpAny_newObj_type (wpAny_pure ⟨plainId_quiet PySem.F.plain_list_iadd _, codeAny_builtin PySem.F.entry_list_iadd ?_⟩))
  rw [Around.under_plainId PySem.F.plain_list_iadd _]
  show wpAny _ A.in1 (Builtin.List.listExtendWith (.ref s.heap.objs.size) (.str x t) (.ref s.heap.objs.size)) _ _ _
  have hp : (s.heap.push { cls := .type "list", data := .seq ([] : List Value).toArray }).get? s.heap.objs.size = some { cls := .type "list", data := .seq #[] 0 } := Heap.get?_push_size _ rfl
  refine wpAny_mono (grows (A := A) (s := { s with heap := s.heap.push { cls := .type "list", data := .seq ([] : List Value).toArray } }) (R := fun r s' => r = .ok (.ret (.ref s.heap.objs.size)) ∧ ∃ (h' : Heap) (tk : Nat) (acc : Array Value) (c : Nat),
      s' = { s with heap := h', toks := tk } ∧ (∀ b o, s.heap.get? b = some o → h'.get? b = some o) ∧ h'.get? s.heap.objs.size = some { cls := .type "list", dict := none, data := .seq acc c, slots := #[] } ∧ ItemsOf (SignAt x) acc x.cps.size)
    hh hn _ _ 0 hp fun h' tk acc c k1 k2 k3 => ⟨rfl, h', tk, acc, c, rfl, fun b o q => k1 b o (Nat.ne_of_lt (Heap.lt_size q)) (Heap.get?_push_of_some _ q), k2, k3⟩) (fun fin s' h => ?_) fun e s' h => absurd h.1 (by simp)
  have fin2 : ∀ (r : Result) (s' : Shared), (r = .ok (.ret (.ref s.heap.objs.size)) ∧ ∃ (h' : Heap) (tk : Nat) (acc : Array Value) (c : Nat), s' = { s with heap := h', toks := tk } ∧ (∀ b o, s.heap.get? b = some o → h'.get? b = some o) ∧ h'.get? s.heap.objs.size = some { cls := .type "list", dict := none, data := .seq acc c, slots := #[] } ∧ ItemsOf (SignAt x) acc x.cps.size) →
      ∃ (h' : Heap) (tk : Nat) (acc : Array Value) (c : Nat), s' = { s with heap := h', toks := tk } ∧ h'.get? s.heap.objs.size = some { cls := .type "list", dict := none, data := .seq acc c, slots := #[] } ∧ Q acc.toList s' := fun r s' ⟨_, h', tk, acc, c, e, k1, k2, k3⟩ => ⟨h', tk, acc, c, e, k2, e ▸ hQ h' tk acc k1 k3⟩
  cases fin with
  | done f =>
    obtain ⟨h', tk, acc, c, rfl, k2, q⟩ := fin2 _ _ h
    cases h.1
    show wpAny _ A (load s.heap.objs.size >>= _) _ _ _
    exact wpAny_bind (wpAny_load k2 (wpAny_pure q))
  | again c' =>
    refine ⟨h.1, codeAny_mono h.2 fun r s2 hr => ?_⟩
    obtain ⟨h', tk, acc, c, rfl, k2, q⟩ := fin2 _ _ hr
    obtain ⟨rfl, _⟩ := hr
    show wpAny _ A (load s.heap.objs.size >>= _) _ _ _
    exact wpAny_bind (wpAny_load k2 (wpAny_pure q))
theorem tup_new {Q1 : Value → Shared → Prop} (hh : A.handled = none) (hn : x.cps.size ≤ sizeLine)
    (h : ∀ (h' : Heap) (tk : Nat) (acc : Array Value), (∀ b o, s.heap.get? b = some o → h'.get? b = some o) → ItemsOf (SignAt x) acc x.cps.size → Q1 (.ref h'.objs.size) { s with heap := h'.push { cls := .type "tuple", data := .seq acc }, toks := tk }) :
    codeAny (model prog w) A (.call (.builtin "tuple.__new__") ⟨[.type "tuple", .str x t], []⟩) (wants Q1 E) s := by
  refine codeAny_of_tree ?_
  show wpAny _ A.in1 (do checkBuiltinCall "tuple.__new__" ⟨[.type "tuple", .str x t], []⟩; again (.builtin "tuple.__new__" ⟨[.type "tuple", .str x t], []⟩)) _ _ s
  refine wpAny_bind (wpAny_of_eq (PySem.F.newCall_tuple_1 _) (wpAny_pure ⟨plainId_quiet PySem.F.plain_tuple_new _, codeAny_builtin PySem.F.entry_tuple_new ?_⟩))
  rw [Around.under_plainId PySem.F.plain_tuple_new _]
  have k1 := sub_tuple_self
  have k2 := init_tuple_lookup
  have k3 := madeHere_tuple
  have ty := typeIs_str s x t
  have hg : A.in1.handled = none := hh
  wp_walk using wpAny_typeOf ty, gathers (A := A.in1) hg hn
  intro h' tk acc hk ha
  show wpAny _ _ (Builtin.Tuple.tupleExact acc.toList.toArray >>= fun v => ret v) _ _ _
  unfold Builtin.Tuple.tupleExact
  refine wpAny_bind (wpAny_newObj_type ?_ (by show acc.toList.toArray.size ≤ sizeLine; simp only [Array.toArray_toList]; rw [ha.1]; exact hn))
  refine wpAny_pure ?_
  rw [show acc.toList.toArray = acc by simp]
  exact h h' tk acc hk ha
theorem tup_call {Q : Value → Shared → Prop} (hh : A.handled = none) (hn : x.cps.size ≤ sizeLine)
    (hQ : ∀ (h' : Heap) (tk : Nat) (acc : Array Value), (∀ b o, s.heap.get? b = some o → h'.get? b = some o) → ItemsOf (SignAt x) acc x.cps.size → Q (.ref h'.objs.size) { s with heap := h'.push { cls := .type "tuple", data := .seq acc }, toks := tk }) :
    wpAny (model prog w) A (call (.type "tuple") [.str x t]) Q E s := by
  refine callType_codes (Q₁ := fun obj s1 => s1.TypeIs obj "tuple" ∧ Q obj s1) PySem.F.called_tuple (PySem.F.typeCall_tuple_1 _) PySem.F.entry_object_init
    (tup_new (A := A.in1) hh hn fun h' tk acc hk ha => ⟨⟨_, Heap.get?_push_size _ rfl, rfl⟩, hQ h' tk acc hk ha⟩) fun obj s1 h1 => ?_
  exact ⟨h1.1, PySem.F.args_object_init_2 obj _, object_init_meets PySem.F.called_tuple.init.lookup PySem.F.called_tuple.made (by decide) prog w A.in1 _ s1 ⟨h1.1, rfl, h1.2⟩⟩
end
theorem sg_vals {x : Str} {acc : Array Value} (h : ItemsOf (SignAt x) acc x.cps.size) : Vals (Zp.sgs x) acc.toList := by
  refine vals_of_idx _ _ (by rw [Array.length_toList, h.1]; simp [cs]) fun j u hj => ?_
  obtain ⟨c, k, hc, rfl⟩ := h.2 j u (by rw [← Array.getElem?_toList]; exact hj)
  refine ⟨.str ⟨#[c]⟩, ?_, k, rfl⟩
  rw [List.getElem?_map, show (cs x)[j]? = some c by rw [Array.getElem?_toList]; exact hc]
  rfl
def rListS : List V → Hp → VK → Prop := fun xs H Q => ∃ z : Str, xs = [.str z] ∧ z.length ≤ sizeLine ∧ ∀ l, H l = none → Q (.ref l) (upd H l (.lst (Zp.sgs z)))
def rTupS : List V → Hp → VK → Prop := fun xs H Q => ∃ z : Str, xs = [.str z] ∧ z.length ≤ sizeLine ∧ ∀ l, H l = none → Q (.ref l) (upd H l (.tup (Zp.sgs z)))
theorem sgs_len (z : Str) : (Zp.sgs z).length = z.length := by rw [List.length_map, cs_len]
theorem call_listS {X : Cx} (hc : X.calm = true) : CallR X (.type "list") rListS := by
  intro pins s σ H xs us Q I r h
  obtain ⟨z, rfl, hz, q⟩ := h
  cases r with
  | cons r1 r2 =>
    cases r2
    obtain ⟨t, rfl⟩ := r1
    refine list_call (I.ok.hd hc) hz fun h' tk acc c hk hp ha => ⟨.ref s.heap.objs.size, upd H s.heap.objs.size (.lst (Zp.sgs z)), ?_, rfl, q _ (I.hok.fresh (Nat.le_refl _))⟩
    refine I.laid (t' := tk) hk (Nat.le_refl _) (show ObjOk X.prog X.w _ _ _ (.lst (Zp.sgs z)) from ⟨by rw [sgs_len]; exact hz, acc.toList, c, sg_vals ha, ?_⟩)
    rw [Array.toArray_toList]
    exact hp
theorem call_tupS {X : Cx} (hc : X.calm = true) : CallR X (.type "tuple") rTupS := by
  intro pins s σ H xs us Q I r h
  obtain ⟨z, rfl, hz, q⟩ := h
  cases r with
  | cons r1 r2 =>
    cases r2
    obtain ⟨t, rfl⟩ := r1
    refine tup_call (I.ok.hd hc) hz fun h' tk acc hk ha => ?_
    have I1 : Inv X pins σ H { s with heap := h', toks := tk } := I.kept (t' := tk) hk
    refine ⟨.ref h'.objs.size, upd H h'.objs.size (.tup (Zp.sgs z)), ?_, rfl, q _ (I1.hok.fresh (Nat.le_refl _))⟩
    refine I1.laid (t' := tk) (fun b o e => Heap.get?_push_of_some _ e) (Nat.le_refl _) (show ObjOk X.prog X.w _ _ _ (.tup (Zp.sgs z)) from ⟨by rw [sgs_len]; exact hz, acc.toList, sg_vals ha, ?_⟩)
    rw [← Array.toArray_toList (xs := acc)]
    exact IsTup.new _ _
/-- of a list, a tuple or a text -/
theorem call_listA {X : Cx} (hc : X.calm = true) : CallR X (.type "list") (fun xs H Q => rListU X.K xs H Q ∨ rListS xs H Q) := fun pins s σ H xs us Q I r h => h.elim (call_listU pins s σ H xs us Q I r) (call_listS hc pins s σ H xs us Q I r)
theorem r_listS {z : Str} {H : Hp} {Q : VK} (hz : z.length ≤ sizeLine) (q : ∀ l, H l = none → Q (.ref l) (upd H l (.lst (Zp.sgs z)))) : rListS [.str z] H Q := ⟨z, rfl, hz, q⟩
theorem r_tupS {z : Str} {H : Hp} {Q : VK} (hz : z.length ≤ sizeLine) (q : ∀ l, H l = none → Q (.ref l) (upd H l (.tup (Zp.sgs z)))) : rTupS [.str z] H Q := ⟨z, rfl, hz, q⟩
end Lx

/-! try: body, several handlers, each of which names the error -/
namespace Ta
open PySem PySem.Spec PyProof.Rows L2
abbrev Hd := Value × (Addr → Value → Option Addr → TS)
/-- handlers that put the error at slot i (name n) -/
inductive Ok (X : Cx) (n : Str) : List ExceptHandler → List Hd → Prop
  | nil : Ok X n [] []
  | cons {x : Str} {c : Value} {ts : Addr → Value → Option Addr → TS} {b0 : Stmt} {su : List Stmt} {np p' : Pos} {hs : List ExceptHandler} {l : List Hd} (hc : Names X x c)
      (hsu : ∀ (a : Addr) (oe : Obj) (cls : Value) (d : Option Addr) (pn : List (Addr × Obj)), Zc cls d oe → (∃ vs, oe.data = .fields vs) → PSs (X.suite a ((a, oe) :: pn)) (b0 :: su) (ts a cls d)) (r : Ok X n hs l) :
      Ok X n (.ExceptHandler (some (.Name x np)) (some n) (b0 :: su) p' :: hs) ((c, ts) :: l)
/-- the ends of a suite: the name is gone -/
def offE (i : Nat) (D : Ends) : Ends := { nx := fun σ H => D.nx (σ.set i none) H, rt := D.rt, bk := fun σ H => D.bk (σ.set i none) H, ct := fun σ H => D.ct (σ.set i none) H }
def wish (K : PySem.W.Frag) (i : Nat) (Wout : WX) (D : Ends) : List Hd → WX
  | [] => Wout
  | (c, ts) :: r => fun cls d σ H => ∃ b, PySem.W.exmOne K cls c = some b ∧ (b = true → ∀ a, H a = none → ts a cls d (offE i D) (σ.set i (some (.ref a))) H) ∧ (b = false → wish K i Wout D r cls d σ H)
section
variable {X : Cx} {n : Str} {i : Nat} {body : List Stmt} {h0 : ExceptHandler} {hs0 : List ExceptHandler} {l0 : List Hd} {pos : Pos} {tb : WX → TS} {Wout : WX}
theorem ps_try (hst : X.stack = X.env :: X.outer) (hfl : X.env.frame = some X.env.locals) (hnd : X.N.Nodup) (hi : X.N[i]? = some n) (hk : X.env.kindOf n = some .local) (tk : Takes X Wout)
    (hb : ∀ (W : WX) (pn : List (Addr × Obj)) (xe : Value → Shared → Prop), Takes (X.tr pn xe) W → PassesOwn (model X.prog X.w) X.A X.env xe → PSs (X.tr pn xe) body (tb W)) (hh : Ok X n (h0 :: hs0) l0) :
    PS X (.Try body (h0 :: hs0) [] [] pos) (fun D σ H => tb (wish X.K i Wout D l0) D σ H) := by
  refine ⟨fun pins s σ H D I h => ?_⟩
  have ok := I.ok
  refine wpAny_Try_except ?_
  refine wpAny_mono ((hb (wish X.K i Wout D l0) (X.pn ++ pins) (fun e s1 => wpAny (model X.prog X.w) X.A (noteFrame e X.env) (fun _ s2 => wpAny (model X.prog X.w) X.A (setFlight e none)
    (fun _ s3 => wpAny (model X.prog X.w) X.A (handleBy e X.env (h0 :: hs0)) (SP X pins D) X.xe s3) X.xe s2) X.xe s1) (fun u s1 air => ?_) PassesOwn.looking).run [] s σ H D (I.toTry _) h) (fun f s1 hf => ?_) (fun _ _ z => z)
  · obtain ⟨a, B, sI, pins', σ1, H1, cls, d, rfl, J0, nb, up, sky, na, os, ag, w⟩ := air
    have J : Inv X pins σ1 H1 sI := J0.ofTry ok
    show wpAny (model X.prog X.w) X.A (noteFrame (.ref a) X.env) _ _ _
    refine Sky.land Zc.steady (by rw [ok.frames, hst]) hfl (by rw [← hst]; exact sky) fun g fl up1 => ?_
    have J3 : Inv X pins σ1 H1 { s1 with heap := g } := J.landed nb fl.1 (up.trans up1) os ag
    obtain ⟨oe, vs, he, hz, hd⟩ := fl.there
    have off : a ∉ frs (X.env :: X.outer) := fun hm => by
      obtain ⟨_, o', e', hnf⟩ := fl.2.2.1.mem hm
      rw [he] at e'
      cases e'
      exact hnf _ hd
    have offL : a ≠ X.env.locals := fun z => off (List.mem_filterMap.mpr ⟨X.env, List.mem_cons_self, by rw [hfl, z]⟩)
    have offF : a ∉ X.fs := fun hm => by
      obtain ⟨e, q1, q2⟩ := List.mem_filterMap.mp hm
      exact off (List.mem_filterMap.mpr ⟨e, List.mem_cons_of_mem _ q1, q2⟩)
    have S3 := J3.suite he hd na offL offF
    have each : ∀ {hs : List ExceptHandler} {l : List Hd}, Ok X n hs l → wish X.K i Wout D l cls d σ1 H1 → wpAny (model X.prog X.w) X.A (handleBy (.ref a) X.env hs) (SP X pins D) X.xe { s1 with heap := g } := by
      intro hs l k
      induction k with
      | nil =>
        intro w
        refine wpAny_handleBy_nil ?_
        obtain ⟨_, _, _, oe', vs', T, oT, ts', q1, q2, q3, q4, q5⟩ := id fl
        unfold PySem.passOn
        refine wpAny_bind (wpAny_field q1 q3 q4 ?_)
        rw [if_neg (show ¬ ((Value.ref T == Value.none) = true) from by simp)]
        have out : wpAny (model X.prog X.w) X.A (setFlight (.ref a) X.env.frame) (fun _ s4 => wpAny (model X.prog X.w) X.A (throw (.ref a) : Sem Flow) (SP X pins D) X.xe s4) X.xe { s1 with heap := g } := by
          rw [hfl]
          exact HandSPX.setFlight_upZ fl fun h4 q6 up4 => wpAny_throw (tk _ _ ⟨a, B, sI, pins, σ1, H1, cls, d, rfl, J, nb, (up.trans up1).trans up4, .inr (.inr (by rw [hst]; exact q6)), na, os, ag, w⟩)
        first
          | exact wpAny_bind (wpAny_pure (wpAny_bind out))
          | exact wpAny_bind out
      | @cons x c ts b0 su np p' hs' l' hc hsu _ ih =>
        intro w
        obtain ⟨b, hb1, yes, no⟩ := w
        refine wpAny_handleBy_cons (codeAny_handlers_test ?_) (by intro q; cases q)
        have look : PySem.W.Looks (model X.prog X.w) g (typeOf (.ref a)) cls := fun A Q E s k q => wpAny_typeOf_ref (k _ _ he) (by rw [hz.1]; exact q)
        have M1 := PySem.W.exm_one (M := model X.prog X.w) J3.kIn look hb1
        have nm : ∀ {Q : Value → Shared → Prop} {E : Value → Shared → Prop}, Q c { s1 with heap := g } → wpAny (model X.prog X.w) (X.A.mark (some (.ref a))) (eval (.Name x np) X.env) Q E { s1 with heap := g } := fun q => by
          obtain ⟨z1, z2, z3 | ⟨z3, z4, z5⟩⟩ := hc
          · exact ld_glob (X := X.suite a ((a, oe) :: (X.pn ++ pins))) S3 z1 z3 q z2
          · exact ld_blt (X := X.suite a ((a, oe) :: (X.pn ++ pins))) S3 z1 z3 z4 q z5 z2
        refine nm (M1.here ?_)
        cases b with
        | false =>
          show wpAny _ X.A (handleBy (.ref a) X.env hs') _ _ _
          exact ih (no rfl)
        | true =>
          refine codeAny_handlers_suite_as (HandSPX.lands_againZ fl fun g4 fl4 up4 => ?_)
          have J4 : Inv X pins σ1 H1 { s1 with heap := g4 } := J.landed nb fl4.1 ((up.trans up1).trans up4) os ag
          obtain ⟨oe4, vs4, he4, hz4, hd4⟩ := fl4.there
          refine store_ok (X := X.suite a ((a, oe4) :: (X.pn ++ pins))) (v := .ref a) (J4.suite he4 hd4 na offL offF) hnd hi (show Loc X.env.scope n from .inl hk) rfl (fun s5 S5 => ?_) (.inr hk)
          refine wpAny_mono ((hsu a oe4 cls d (X.pn ++ pins) hz4 ⟨_, hd4⟩).run [] s5 _ H1 _ S5 (yes rfl a na)) (fun f s6 q => ?_) fun _ _ z => False.elim z
          have gone : ∀ {σ6 : L2.St} {H6 : Hp} {Q : Shared → Prop}, Inv (X.suite a ((a, oe4) :: (X.pn ++ pins))) [] σ6 H6 s6 → (∀ s7, Inv X pins (σ6.set i none) H6 s7 → Q s7) →
              wpAny (model X.prog X.w) X.A (do bindName X.env n .none; unbindBehindTheSuite X.env n p') (fun _ s7 => Q s7) X.xe s6 := fun S6 q => gone_ok (S6.unsuite ok) hnd hi hk q
          cases f with
          | next => obtain ⟨_, _, S6, q6⟩ := q; exact gone S6 fun s7 J7 => ⟨_, _, J7, q6⟩
          | brk => obtain ⟨_, _, S6, q6⟩ := q; exact gone S6 fun s7 J7 => ⟨_, _, J7, q6⟩
          | cont => obtain ⟨_, _, S6, q6⟩ := q; exact gone S6 fun s7 J7 => ⟨_, _, J7, q6⟩
          | ret u => obtain ⟨_, _, _, S6, r6, q6⟩ := q; exact gone S6 fun s7 J7 => ⟨_, _, _, J7, r6, q6⟩
    exact each hh w
  · cases f with
    | next => obtain ⟨_, _, J', q⟩ := hf; exact wpAny_execs_nil ⟨_, _, J'.ofTry ok, q⟩
    | brk => obtain ⟨_, _, J', q⟩ := hf; exact ⟨_, _, J'.ofTry ok, q⟩
    | cont => obtain ⟨_, _, J', q⟩ := hf; exact ⟨_, _, J'.ofTry ok, q⟩
    | ret u => obtain ⟨_, _, _, J', r, q⟩ := hf; exact ⟨_, _, _, J'.ofTry ok, r, q⟩
end
end Ta

/-! motions over words and lines, without code -/
namespace Q48
/-! ### words: a row of classes; 2: blank, 3: feed -/
abbrev at' (c : List Nat) (k : Nat) : Nat := c.getD k 9
/-- past signs of one class: n is where it ends -/
def Past (c : List Nat) (x k n : Nat) : Prop := k ≤ n ∧ n ≤ c.length ∧ (∀ i, k ≤ i → i < n → at' c i = x) ∧ (n < c.length → at' c n ≠ x)
def Back (c : List Nat) (x k n : Nat) : Prop := n ≤ k ∧ (∀ i, n ≤ i → i < k → at' c i = x) ∧ (0 < n → at' c (n - 1) ≠ x)
/-- the program's next word -/
def On (c : List Nat) (k r : Nat) : Prop := (k = c.length ∧ r = k) ∨ (k < c.length ∧ at' c k = 3 ∧ r = k + 1) ∨ (k < c.length ∧ at' c k ≠ 3 ∧ ∃ p, Past c (at' c k) k p ∧ Past c 2 p r)
def stopF (c : List Nat) (j : Nat) : Prop := at' c j ≠ 2 ∧ at' c j ≠ at' c (j - 1)
/-- the law's -/
def LOn (c : List Nat) (k r : Nat) : Prop := (k = c.length ∧ r = k) ∨ (k < c.length ∧ at' c k = 3 ∧ r = k + 1) ∨ (k < c.length ∧ at' c k ≠ 3 ∧ k < r ∧ r ≤ c.length ∧ (∀ j, k < j → j < r → ¬ stopF c j) ∧ (r < c.length → stopF c r))
theorem on_law {c : List Nat} {k r r' : Nat} (h : On c k r) (g : LOn c k r') : r = r' := by
  rcases h with ⟨h1, h2⟩ | ⟨h1, h2, h3⟩ | ⟨h1, h2, p, ⟨a1, a2, a3, a4⟩, ⟨b1, b2, b3, b4⟩⟩
  · rcases g with ⟨g1, g2⟩ | ⟨g1, _⟩ | ⟨g1, _⟩
    · omega
    · omega
    · omega
  · rcases g with ⟨g1, g2⟩ | ⟨g1, g2, g3⟩ | ⟨g1, g2, _⟩
    · omega
    · omega
    · exact absurd h2 g2
  · rcases g with ⟨g1, g2⟩ | ⟨g1, g2, g3⟩ | ⟨g1, g2, g3, g4, g5, g6⟩
    · omega
    · exact absurd g2 h2
    · have kp : k < p := by
        rcases Nat.lt_or_ge k p with z | z
        · exact z
        · have e : p = k := by omega
          subst e
          exact absurd rfl (a4 h1)
      -- no stop ahead of r
      have no : ∀ j, k < j → j < r → ¬ stopF c j := fun j h1 h2 s => by
        rcases Nat.lt_or_ge j p with z | z
        · exact s.2 ((a3 j (by omega) z).trans (a3 (j - 1) (by omega) (by omega)).symm)
        · exact s.1 (b3 j z h2)
      have yes : r < c.length → stopF c r := fun h => by
        refine ⟨b4 h, fun e => ?_⟩
        rcases Nat.lt_or_ge p r with z | z
        · exact b4 h (e.trans (b3 (r - 1) (by omega) (by omega)))
        · have e2 : r = p := by omega
          subst e2
          exact a4 h (e.trans (a3 (r - 1) (by omega) (by omega)))
      rcases Nat.lt_trichotomy r r' with z | z | z
      · exact absurd (yes (by omega)) (g5 r (by omega) z)
      · exact z
      · exact absurd (g6 (by omega)) (no r' g3 z)
def Bk (c : List Nat) (k r : Nat) : Prop := (k = 0 ∧ r = 0) ∨ (0 < k ∧ at' c (k - 1) = 3 ∧ r = k - 1) ∨
  (0 < k ∧ at' c (k - 1) ≠ 3 ∧ ∃ p, Back c 2 k p ∧ (((p = 0 ∨ at' c (p - 1) = 3) ∧ r = p) ∨ (0 < p ∧ at' c (p - 1) ≠ 3 ∧ Back c (at' c (p - 1)) p r)))
def stopB (c : List Nat) (j : Nat) : Prop := at' c (j - 1) = 3 ∨ (at' c j ≠ 2 ∧ at' c (j - 1) ≠ at' c j)
def LBk (c : List Nat) (k r : Nat) : Prop := (k = 0 ∧ r = 0) ∨ (0 < k ∧ at' c (k - 1) = 3 ∧ r = k - 1) ∨ (0 < k ∧ at' c (k - 1) ≠ 3 ∧ r < k ∧ (0 < r → stopB c r) ∧ ∀ j, r < j → j < k → ¬ stopB c j)
theorem back_law {c : List Nat} {k r r' : Nat} (h : Bk c k r) (g : LBk c k r') : r = r' := by
  rcases h with ⟨h1, h2⟩ | ⟨h1, h2, h3⟩ | ⟨h1, h2, p, ⟨a1, a3, a4⟩, hp⟩
  · rcases g with ⟨g1, g2⟩ | ⟨g1, _⟩ | ⟨g1, _⟩ <;> omega
  · rcases g with ⟨g1, g2⟩ | ⟨g1, g2, g3⟩ | ⟨g1, g2, _⟩
    · omega
    · omega
    · exact absurd h2 g2
  · rcases g with ⟨g1, g2⟩ | ⟨g1, g2, g3⟩ | ⟨g1, g2, g3, g4, g5⟩
    · omega
    · exact absurd g2 h2
    · -- within the blanks there is no stop but at their begin behind a feed
      have nb : ∀ j, p < j → j < k → ¬ stopB c j := fun j h1 h2 s => by
        have e1 := a3 j (by omega) h2
        have e2 := a3 (j - 1) (by omega) (by omega)
        rcases s with s | s
        · rw [e2] at s; cases s
        · exact s.1 e1
      rcases hp with ⟨hq, rfl⟩ | ⟨p0, pn, ⟨b1, b3, b4⟩⟩
      · have rk : r < k := by
          rcases Nat.lt_or_ge r k with z | z
          · exact z
          · have e : r = k := by omega
            rcases hq with hq | hq
            · omega
            · rw [e] at hq; exact absurd hq h2
        have yes : 0 < r → stopB c r := fun z => .inl (hq.elim (fun y => by omega) id)
        rcases Nat.lt_trichotomy r r' with z | z | z
        · exact absurd (g4 (by omega)) (nb r' z g3)
        · exact z
        · exact absurd (yes (by omega)) (g5 r z rk)
      · have rp : r < p := by
          rcases Nat.lt_or_ge r p with z | z
          · exact z
          · have e : r = p := by omega
            rw [e] at b4
            exact absurd rfl (b4 p0)
        have np : p < k → ¬ stopB c p := fun pk s => by
          have e1 := a3 p (Nat.le_refl _) pk
          rcases s with s | s
          · exact pn s
          · exact s.1 e1
        have nw : ∀ j, r < j → j < p → ¬ stopB c j := fun j h1 h2 s => by
          have e1 := b3 j (by omega) h2
          have e2 := b3 (j - 1) (by omega) (by omega)
          rcases s with s | s
          · exact pn (e2.symm.trans s)
          · exact s.2 (e2.trans e1.symm)
        have yes : 0 < r → stopB c r := fun z => by
          have e1 := b3 r (Nat.le_refl _) rp
          have b := b4 z
          refine .inr ⟨fun e => ?_, fun e => b (e.trans e1)⟩
          -- the class ahead of p is no blank
          have := a4 p0
          exact this (e1.symm.trans e)
        rcases Nat.lt_trichotomy r r' with z | z | z
        · rcases Nat.lt_trichotomy r' p with y | y | y
          · exact absurd (g4 (by omega)) (nw r' z y)
          · rw [y] at g3 g4; exact absurd (g4 (by omega)) (np g3)
          · exact absurd (g4 (by omega)) (nb r' y g3)
        · exact z
        · exact absurd (yes (by omega)) (g5 r z (by omega))
/-! ### rows -/
def jn10 : List (List Nat) → List Nat
  | [] => []
  | [r] => r
  | r :: r2 :: rs => r ++ 10 :: jn10 (r2 :: rs)
def beg (R : List (List Nat)) (j : Nat) : Nat := ((R.take j).map fun r => r.length + 1).sum
def ln (l : List Nat) (k : Nat) : Nat := ((l.take k).filter fun c => decide (c = 10)).length
theorem beg_zero {R : List (List Nat)} : beg R 0 = 0 := rfl
theorem beg_cons {r : List Nat} {R : List (List Nat)} {j : Nat} : beg (r :: R) (j + 1) = r.length + 1 + beg R j := by
  unfold beg
  rw [List.take_succ_cons, List.map_cons, List.sum_cons]
theorem beg_succ {R : List (List Nat)} {j : Nat} {r : List Nat} (h : R[j]? = some r) : beg R (j + 1) = beg R j + r.length + 1 := by
  unfold beg
  rw [List.take_add_one, h, List.map_append, List.sum_append]
  show _ + (r.length + 1 + 0) = _
  omega
theorem beg_mono {R : List (List Nat)} {i j : Nat} (h : i ≤ j) : beg R i ≤ beg R j := by
  induction j with
  | zero => rw [show i = 0 by omega]; exact Nat.le_refl _
  | succ j ih =>
    rcases Nat.lt_or_ge i (j + 1) with z | z
    · refine Nat.le_trans (ih (by omega)) ?_
      cases e : R[j]? with
      | none =>
        have : R.length ≤ j := by simpa using e
        unfold beg
        rw [List.take_of_length_le this, List.take_of_length_le (by omega)]
        exact Nat.le_refl _
      | some r => rw [beg_succ e]; omega
    · rw [show i = j + 1 by omega]; exact Nat.le_refl _
theorem ln_free {r : List Nat} (h : 10 ∉ r) (k : Nat) : ln r k = 0 := by
  unfold ln
  rw [List.length_eq_zero_iff, List.filter_eq_nil_iff]
  intro c hc e
  have : c = 10 := of_decide_eq_true e
  exact h (this ▸ List.mem_of_mem_take hc)
theorem ln_app {r l : List Nat} (h : 10 ∉ r) {k : Nat} (hk : r.length < k) : ln (r ++ 10 :: l) k = ln l (k - r.length - 1) + 1 := by
  have e : (r ++ 10 :: l).take k = r ++ 10 :: l.take (k - r.length - 1) := by
    rw [List.take_append, List.take_of_length_le (by omega), show k - r.length = (k - r.length - 1) + 1 by omega, List.take_succ_cons, Nat.add_sub_cancel]
  unfold ln
  rw [e, List.filter_append, List.filter_cons_of_pos (by decide), List.length_append, List.length_cons]
  have z : (r.filter fun c => decide (c = 10)).length = 0 := by
    have := ln_free h r.length
    unfold ln at this
    rw [List.take_length] at this
    exact this
  rw [z]
  omega
/-- where a place lies -/
theorem row_at : ∀ {R : List (List Nat)}, R ≠ [] → (∀ r ∈ R, 10 ∉ r) → ∀ k, k ≤ (jn10 R).length → ∃ j r, R[j]? = some r ∧ beg R j ≤ k ∧ k ≤ beg R j + r.length ∧ ln (jn10 R) k = j ∧
    (∀ i, beg R j ≤ i → i < k → (jn10 R)[i]? ≠ some 10) ∧ (0 < j → 0 < beg R j ∧ (jn10 R)[beg R j - 1]? = some 10)
  | [r], _, free, k, hk => by
    have f := free r (List.mem_cons_self ..)
    have hk : k ≤ r.length := hk
    refine ⟨0, r, rfl, Nat.zero_le _, by rw [beg_zero]; omega, ln_free f k, fun i _ _ e => f (List.mem_of_getElem? e), fun h => absurd h (by omega)⟩
  | r :: r2 :: rs, _, free, k, hk => by
    have f := free r (List.mem_cons_self ..)
    have e0 : jn10 (r :: r2 :: rs) = r ++ 10 :: jn10 (r2 :: rs) := rfl
    rw [e0] at hk ⊢
    rw [List.length_append, List.length_cons] at hk
    rcases Nat.lt_or_ge r.length k with z | z
    · obtain ⟨j, q, h1, h2, h3, h4, h5, h6⟩ := row_at (R := r2 :: rs) (by simp) (fun x hx => free x (List.mem_cons_of_mem _ hx)) (k - r.length - 1) (by omega)
      have sh : ∀ i, r.length < i → (r ++ 10 :: jn10 (r2 :: rs))[i]? = (jn10 (r2 :: rs))[i - r.length - 1]? := fun i hi => by
        rw [List.getElem?_append_right (by omega), show i - r.length = (i - r.length - 1) + 1 by omega, List.getElem?_cons_succ, Nat.add_sub_cancel]
      refine ⟨j + 1, q, h1, by rw [beg_cons]; omega, by rw [beg_cons]; omega, by rw [ln_app f z, h4], fun i hi1 hi2 => ?_, fun _ => ⟨by rw [beg_cons]; omega, ?_⟩⟩
      · rw [beg_cons] at hi1
        rw [sh i (by omega)]
        exact h5 _ (by omega) (by omega)
      · rw [beg_cons]
        rcases Nat.eq_zero_or_pos j with y | y
        · rw [y, beg_zero, List.getElem?_append_right (by omega), show r.length + 1 + 0 - 1 - r.length = 0 by omega]
          rfl
        · obtain ⟨g1, g2⟩ := h6 y
          rw [sh _ (by omega), show r.length + 1 + beg (r2 :: rs) j - 1 - r.length - 1 = beg (r2 :: rs) j - 1 by omega]
          exact g2
    · refine ⟨0, r, rfl, Nat.zero_le _, by rw [beg_zero]; omega, ?_, fun i _ hi e => ?_, fun h => absurd h (by omega)⟩
      · have : (r ++ 10 :: jn10 (r2 :: rs)).take k = r.take k := by rw [List.take_append_of_le_length z]
        unfold ln
        rw [this]
        exact ln_free f k
      · rw [List.getElem?_append_left (by omega)] at e
        exact f (List.mem_of_getElem? e)
/-- as many feeds as rows, but one -/
theorem rows_feeds : ∀ {R : List (List Nat)}, R ≠ [] → (∀ r ∈ R, 10 ∉ r) → ln (jn10 R) (jn10 R).length + 1 = R.length
  | [r], _, free => by rw [show jn10 [r] = r from rfl, ln_free (free r (List.mem_cons_self ..))]; rfl
  | r :: r2 :: rs, _, free => by
    have f := free r (List.mem_cons_self ..)
    have ih := rows_feeds (R := r2 :: rs) (by simp) (fun x hx => free x (List.mem_cons_of_mem _ hx))
    rw [show jn10 (r :: r2 :: rs) = r ++ 10 :: jn10 (r2 :: rs) from rfl, ln_app f (by rw [List.length_append, List.length_cons]; omega), List.length_append, List.length_cons, show r.length + ((jn10 (r2 :: rs)).length + 1) - r.length - 1 = (jn10 (r2 :: rs)).length by omega, ih]
    rfl
theorem row_in : ∀ {R : List (List Nat)} {j : Nat} {r : List Nat}, R[j]? = some r → beg R j + r.length ≤ (jn10 R).length
  | [q], 0, r, h => by cases h; rw [beg_zero]; exact Nat.le_of_eq (Nat.zero_add _)
  | [q], j + 1, r, h => by cases h
  | q :: q2 :: rs, 0, r, h => by
    obtain rfl : q = r := Option.some.inj h
    rw [beg_zero, show jn10 (q :: q2 :: rs) = q ++ 10 :: jn10 (q2 :: rs) from rfl, List.length_append]
    omega
  | q :: q2 :: rs, j + 1, r, h => by
    have := row_in (R := q2 :: rs) (j := j) (r := r) h
    rw [beg_cons, show jn10 (q :: q2 :: rs) = q ++ 10 :: jn10 (q2 :: rs) from rfl, List.length_append, List.length_cons]
    omega
/-- a place of a row lies on that line -/
theorem ln_row {R : List (List Nat)} (ne : R ≠ []) (free : ∀ r ∈ R, 10 ∉ r) {L k : Nat} {r : List Nat} (h : R[L]? = some r) (h1 : beg R L ≤ k) (h2 : k ≤ beg R L + r.length) : ln (jn10 R) k = L := by
  obtain ⟨j, q, g1, g2, g3, g4, _⟩ := row_at ne free k (Nat.le_trans h2 (row_in h))
  rw [g4]
  rcases Nat.lt_trichotomy j L with z | z | z
  · have := beg_mono (R := R) (show j + 1 ≤ L by omega)
    rw [beg_succ g1] at this
    omega
  · exact z
  · have := beg_mono (R := R) (show L + 1 ≤ j by omega)
    rw [beg_succ h] at this
    omega
/-- the law's columns -/
def col (l : List Nat) : Nat → Nat
  | 0 => 0
  | k + 1 => if l[k]? = some 10 then 0 else col l k + 1
theorem col_row {R : List (List Nat)} (ne : R ≠ []) (free : ∀ r ∈ R, 10 ∉ r) : ∀ k, k ≤ (jn10 R).length → col (jn10 R) k + beg R (ln (jn10 R) k) = k
  | 0, _ => by
    have e : ln (jn10 R) 0 = 0 := by unfold ln; rw [List.take_zero]; rfl
    rw [e, beg_zero]
    rfl
  | k + 1, hk => by
    have ih := col_row ne free k (by omega)
    obtain ⟨j, q, g1, g2, g3, g4, g5, g6⟩ := row_at ne free k (by omega)
    obtain ⟨j', q', h1, h2, h3, h4, h5, h6⟩ := row_at ne free (k + 1) hk
    rw [g4] at ih
    rw [h4]
    unfold col
    by_cases c : (jn10 R)[k]? = some 10
    · rw [if_pos c]
      have : beg R j' = k + 1 := by
        rcases Nat.lt_or_ge k (beg R j') with z | z
        · omega
        · exact absurd c (h5 k z (by omega))
      omega
    · rw [if_neg c]
      -- the same line
      have e : j' = j := by
        rcases Nat.lt_or_ge k (beg R j') with z | z
        · have zz : beg R j' = k + 1 := by omega
          rcases Nat.eq_zero_or_pos j' with y | y
          · rw [y, beg_zero] at zz; omega
          · have := (h6 y).2
            rw [zz, Nat.add_sub_cancel] at this
            exact absurd this c
        · have := ln_row ne free h1 z (by omega)
          rw [g4] at this
          exact this.symm
      rw [e]
      omega
/-- the law's search -/
theorem near_row {R : List (List Nat)} (ne : R ≠ []) (free : ∀ r ∈ R, 10 ∉ r) {L C f : Nat} {r : List Nat} (h : R[L]? = some r) (hf : f ≤ (jn10 R).length) (f1 : ln (jn10 R) f = L) (f2 : col (jn10 R) f ≤ C)
    (last : ∀ k, f < k → k ≤ (jn10 R).length → ¬ (ln (jn10 R) k = L ∧ col (jn10 R) k ≤ C)) : f = beg R L + min C r.length := by
  have e := col_row ne free f hf
  rw [f1] at e
  obtain ⟨j, q, g1, g2, g3, g4, _⟩ := row_at ne free f hf
  have ej : j = L := g4.symm.trans f1
  subst ej
  rw [h] at g1
  cases g1
  have rin := row_in h
  have le : f ≤ beg R j + min C r.length := by omega
  rcases Nat.lt_or_ge f (beg R j + min C r.length) with z | z
  · exfalso
    have l1 := ln_row ne free h (k := beg R j + min C r.length) (by omega) (by omega)
    have c1 := col_row ne free (beg R j + min C r.length) (by omega)
    rw [l1] at c1
    exact last _ z (by omega) ⟨l1, by omega⟩
  · omega
end Q48

namespace K17
open PySem PySem.Spec PyProof.Rows L2 Dk Q48
/-- one step of a reading -/
local macro_rules | `(tactic| walk_at "rd1") => `(tactic| first
  | ((with_reducible refine r_var (v := ?rv) ?rh ?_); (case rh => rfl))
  | with_reducible refine r_c ?_
  | with_reducible refine r_seq ?_
  | with_reducible refine r_asg ?_
  | with_reducible refine r_par ?_
  | with_reducible refine r_gname ?_
  | with_reducible refine r_op ?_
  | with_reducible refine r_forLo ?_
  | with_reducible refine r_forTo ?_
  | with_reducible refine r_forSo ?_
  | with_reducible refine r_forRo ?_
  | with_reducible refine r_forRvo ?_
  | with_reducible refine r_forZo ?_
  | with_reducible refine r_revS ?_
  | with_reducible refine r_lcRo ?_
  | with_reducible refine r_lcLo ?_
  | with_reducible refine r_yes ?_
  | with_reducible refine r_callK0 ?_
  | with_reducible refine r_break ?_
  | with_reducible refine r_continue ?_
  | with_reducible refine r_forR2o ?_
  | with_reducible refine r_forEo ?_
  | with_reducible refine r_forESo ?_
  | with_reducible refine r_xfo ?_
  | with_reducible refine r_noP ?_
  | with_reducible refine r_part ?_
  | with_reducible refine r_pI ?_
  | with_reducible refine r_gcons ?_
  | with_reducible refine r_gnil ?_
  | with_reducible refine r_mkO ?_
  | with_reducible refine r_un ?_
  | with_reducible refine r_addI ?_
  | with_reducible refine r_I0 ?_
  | with_reducible refine r_U ?_
  | with_reducible refine r_cons ?_
  | with_reducible refine r_nil ?_
  | with_reducible refine r_CB ?_
  | with_reducible refine r_call ?_
  | with_reducible refine r_callS ?_
  | with_reducible refine r_int ?_
  | with_reducible refine r_max ?_
  | with_reducible refine r_min ?_
  | with_reducible refine r_test ?_
  | with_reducible refine r_B ?_
  | with_reducible refine r_blv ?_
  | with_reducible refine r_and ?_
  | with_reducible refine r_or ?_
  | with_reducible refine r_not ?_
  | with_reducible refine r_andV ?_
  | with_reducible refine r_orV ?_
  | with_reducible refine r_notV ?_
  | with_reducible refine r_ifE ?_
  | with_reducible refine r_ifS ?_
  | with_reducible refine r_ret ?_
  | with_reducible refine r_retN ?_
  | with_reducible refine r_drop ?_
  | with_reducible refine r_next ?_
  | with_reducible refine r_sl ?_
  | with_reducible refine r_gsub ?_
  | with_reducible refine r_bm ?_
  | with_reducible refine r_bm0 ?_
  | with_reducible refine r_tup ?_
  | with_reducible refine r_lst ?_
  | with_reducible refine r_isN ?_
  | with_reducible refine r_notN ?_
  | with_reducible refine r_chain ?_
  | with_reducible refine r_callK ?_
  | with_reducible refine r_isB ?_
  | with_reducible refine r_lcEio ?_
  | with_reducible refine r_forEi ?_
  | with_reducible refine r_lcTo ?_
  | with_reducible refine r_lcSo ?_
  | with_reducible refine r_m1 ?_
  | with_reducible refine r_dget ?_
  | with_reducible refine r_din ?_
  | with_reducible refine r_dnotin ?_
  | with_reducible refine r_starC ?_
  | with_reducible refine r_callKS ?_
  | with_reducible refine r_itt ?_
  | with_reducible refine r_iff ?_
  | with_reducible refine r_ittN ?_
  | with_reducible refine r_iffN ?_
  | ((with_reducible refine r_ittD ?rh ?_); (case rh => rfl))
  | ((with_reducible refine r_iffD ?rh ?_); (case rh => rfl))
  | ((with_reducible refine r_modP ?rh ?_); (case rh => decide))
  | ((with_reducible refine r_eq ?rh ?_); (case rh => rfl))
  | ((with_reducible refine r_eqP ?rh ?_); (case rh => rfl))
  | ((with_reducible refine r_ne ?rh ?_); (case rh => rfl)))
local macro_rules | `(tactic| walk_at "rd") => `(tactic| repeat walk_at "rd1")
local macro_rules | `(tactic| walk_at "isi") => `(tactic| first | refine r_isi (b := true) (by assumption) (by decide +kernel) ?_ | refine r_isi (b := false) (by assumption) (by decide +kernel) ?_)
local macro_rules | `(tactic| walk_at "rs1") => `(tactic| first
  | with_reducible refine r_seq ?_
  | with_reducible refine r_asg ?_
  | with_reducible refine r_gname ?_
  | with_reducible refine r_ret ?_)
local macro_rules | `(tactic| walk_at "rs") => `(tactic| repeat walk_at "rs1")

def topS (i : Nat) : Stmt := PySem.Challenge.pw_deedstand_k17_whole_signs_rows_spots.main.body.getD i (.Pass ⟨0, 0, 0, 0⟩)
abbrev s_rows_of : Stmt := topS 7
abbrev N_rows_of : List Str := ["text"]
theorem sc_rows_of : FnScope ["text"] ["text"] (defScope s_rows_of) := ⟨rfl, rfl, rfl, by decide +kernel, rfl, by decide +kernel, by decide +kernel⟩
abbrev s_joined : Stmt := topS 8
abbrev N_joined : List Str := ["rows"]
theorem sc_joined : FnScope ["rows"] ["rows"] (defScope s_joined) := ⟨rfl, rfl, rfl, by decide +kernel, rfl, by decide +kernel, by decide +kernel⟩
abbrev s_spot_of : Stmt := topS 9
abbrev N_spot_of : List Str := ["text", "place", "begin"]
theorem sc_spot_of : FnScope ["text", "place", "begin"] ["text", "place"] (defScope s_spot_of) := ⟨rfl, rfl, rfl, by decide +kernel, rfl, by decide +kernel, by decide +kernel⟩
abbrev s_place_of : Stmt := topS 10
abbrev N_place_of : List Str := ["text", "line", "column", "begin", "end"]
theorem sc_place_of : FnScope ["text", "line", "column", "begin", "end"] ["text", "line", "column"] (defScope s_place_of) := ⟨rfl, rfl, rfl, by decide +kernel, rfl, by decide +kernel, by decide +kernel⟩
abbrev s_row_bounds : Stmt := topS 11
abbrev N_row_bounds : List Str := ["text", "line", "rows", "begin", "row"]
theorem sc_row_bounds : FnScope ["text", "line", "rows", "begin", "row"] ["text", "line"] (defScope s_row_bounds) := ⟨rfl, rfl, rfl, by decide +kernel, rfl, by decide +kernel, by decide +kernel⟩
abbrev s_first_strange : Stmt := topS 18
abbrev N_first_strange : List Str := ["text", "at", "sign"]
theorem sc_first_strange : FnScope ["text", "at", "sign"] ["text"] (defScope s_first_strange) := ⟨rfl, rfl, rfl, by decide +kernel, rfl, by decide +kernel, by decide +kernel⟩
abbrev s_is_text : Stmt := topS 19
abbrev N_is_text : List Str := ["thing"]
theorem sc_is_text : FnScope ["thing"] ["thing"] (defScope s_is_text) := ⟨rfl, rfl, rfl, by decide +kernel, rfl, by decide +kernel, by decide +kernel⟩
abbrev s_check_text : Stmt := topS 20
abbrev N_check_text : List Str := ["thing", "most", "at"]
theorem sc_check_text : FnScope ["thing", "most", "at"] ["thing", "most"] (defScope s_check_text) := ⟨rfl, rfl, rfl, by decide +kernel, rfl, by decide +kernel, by decide +kernel⟩
abbrev s_code_of : Stmt := topS 21
abbrev N_code_of : List Str := ["sign"]
theorem sc_code_of : FnScope ["sign"] ["sign"] (defScope s_code_of) := ⟨rfl, rfl, rfl, by decide +kernel, rfl, by decide +kernel, by decide +kernel⟩
abbrev s_sign_of : Stmt := topS 22
abbrev N_sign_of : List Str := ["code"]
theorem sc_sign_of : FnScope ["code"] ["code"] (defScope s_sign_of) := ⟨rfl, rfl, rfl, by decide +kernel, rfl, by decide +kernel, by decide +kernel⟩
abbrev s_kind_of : Stmt := topS 23
abbrev N_kind_of : List Str := ["sign"]
theorem sc_kind_of : FnScope ["sign"] ["sign"] (defScope s_kind_of) := ⟨rfl, rfl, rfl, by decide +kernel, rfl, by decide +kernel, by decide +kernel⟩
abbrev s_is_name : Stmt := topS 24
abbrev N_is_name : List Str := ["thing", "sign"]
theorem sc_is_name : FnScope ["thing", "sign"] ["thing"] (defScope s_is_name) := ⟨rfl, rfl, rfl, by decide +kernel, rfl, by decide +kernel, by decide +kernel⟩
abbrev s_law_start : Stmt := topS 26
abbrev N_law_start : List Str := ["_law_script", "_law_mix", "_law_cell"]
theorem sc_law_start : FnScope ["_law_script", "_law_mix", "_law_cell"] ["_law_script"] (defScope s_law_start) := ⟨rfl, rfl, rfl, by decide +kernel, rfl, by decide +kernel, by decide +kernel⟩
abbrev s_law_draw : Stmt := topS 27
abbrev N_law_draw : List Str := ["_law_state", "_law_many"]
theorem sc_law_draw : FnScope ["_law_state", "_law_many"] ["_law_state", "_law_many"] (defScope s_law_draw) := ⟨rfl, rfl, rfl, by decide +kernel, rfl, by decide +kernel, by decide +kernel⟩
abbrev s_law_small : Stmt := topS 28
abbrev N_law_small : List Str := []
theorem sc_law_small : FnScope [] [] (defScope s_law_small) := ⟨rfl, rfl, rfl, by decide +kernel, rfl, by decide +kernel, by decide +kernel⟩
abbrev s_law_signs : Stmt := topS 29
abbrev N_law_signs : List Str := ["_law_early"]
theorem sc_law_signs : FnScope ["_law_early"] [] (defScope s_law_signs) := ⟨rfl, rfl, rfl, by decide +kernel, rfl, by decide +kernel, by decide +kernel⟩
abbrev s_law_kind : Stmt := topS 30
abbrev N_law_kind : List Str := ["_law_sign"]
theorem sc_law_kind : FnScope ["_law_sign"] ["_law_sign"] (defScope s_law_kind) := ⟨rfl, rfl, rfl, by decide +kernel, rfl, by decide +kernel, by decide +kernel⟩
abbrev s_law_text : Stmt := topS 31
abbrev N_law_text : List Str := ["_law_state", "_law_size", "_law_signs_here", "_law_few", "_law_made", "_law_k", "_law_pick"]
theorem sc_law_text : FnScope ["_law_state", "_law_size", "_law_signs_here", "_law_few", "_law_made", "_law_k", "_law_pick"] ["_law_state", "_law_size"] (defScope s_law_text) := ⟨rfl, rfl, rfl, by decide +kernel, rfl, by decide +kernel, by decide +kernel⟩
abbrev s_law_is : Stmt := topS 32
abbrev N_law_is : List Str := ["_law_due", "_law_told_here"]
theorem sc_law_is : FnScope ["_law_due", "_law_told_here"] ["_law_due", "_law_told_here"] (defScope s_law_is) := ⟨rfl, rfl, rfl, by decide +kernel, rfl, by decide +kernel, by decide +kernel⟩
abbrev s_law_told : Stmt := topS 33
abbrev N_law_told : List Str := ["_law_due", "_law_told_here"]
theorem sc_law_told : FnScope ["_law_due", "_law_told_here"] ["_law_due", "_law_told_here"] (defScope s_law_told) := ⟨rfl, rfl, rfl, by decide +kernel, rfl, by decide +kernel, by decide +kernel⟩
abbrev s_law_pair : Stmt := topS 34
abbrev N_law_pair : List Str := ["_law_due", "_law_told_here"]
theorem sc_law_pair : FnScope ["_law_due", "_law_told_here"] ["_law_due", "_law_told_here"] (defScope s_law_pair) := ⟨rfl, rfl, rfl, by decide +kernel, rfl, by decide +kernel, by decide +kernel⟩
abbrev s_law_alphabet : Stmt := topS 35
abbrev N_law_alphabet : List Str := ["_law_state", "_law_signs_here", "_law_lap", "_law_code", "_law_sign"]
theorem sc_law_alphabet : FnScope ["_law_state", "_law_signs_here", "_law_lap", "_law_code", "_law_sign"] ["_law_state"] (defScope s_law_alphabet) := ⟨rfl, rfl, rfl, by decide +kernel, rfl, by decide +kernel, by decide +kernel⟩
abbrev s_law_first_wrong : Stmt := topS 36
abbrev N_law_first_wrong : List Str := ["_law_thing", "_law_signs_here", "_law_k"]
theorem sc_law_first_wrong : FnScope ["_law_thing", "_law_signs_here", "_law_k"] ["_law_thing"] (defScope s_law_first_wrong) := ⟨rfl, rfl, rfl, by decide +kernel, rfl, by decide +kernel, by decide +kernel⟩
abbrev s_law_named : Stmt := topS 37
abbrev N_law_named : List Str := ["_law_thing", "_law_c"]
theorem sc_law_named : FnScope ["_law_thing", "_law_c"] ["_law_thing"] (defScope s_law_named) := ⟨rfl, rfl, rfl, by decide +kernel, rfl, by decide +kernel, by decide +kernel⟩
abbrev s_law_checked : Stmt := topS 38
abbrev N_law_checked : List Str := ["_law_thing", "_law_most", "_law_told_here", "e"]
theorem sc_law_checked : FnScope ["_law_thing", "_law_most", "_law_told_here", "e"] ["_law_thing", "_law_most"] (defScope s_law_checked) := ⟨rfl, rfl, rfl, by decide +kernel, rfl, by decide +kernel, by decide +kernel⟩
abbrev s_law_value : Stmt := topS 39
abbrev N_law_value : List Str := ["_law_state", "_law_thing", "_law_wrong", "_law_size", "_law_most", "_law_told_here"]
theorem sc_law_value : FnScope ["_law_state", "_law_thing", "_law_wrong", "_law_size", "_law_most", "_law_told_here"] ["_law_state", "_law_thing"] (defScope s_law_value) := ⟨rfl, rfl, rfl, by decide +kernel, rfl, by decide +kernel, by decide +kernel⟩
abbrev s_law_name : Stmt := topS 40
abbrev N_law_name : List Str := ["_law_state", "_law_size", "_law_known", "_law_k"]
theorem sc_law_name : FnScope ["_law_state", "_law_size", "_law_known", "_law_k"] ["_law_state", "_law_size"] (defScope s_law_name) := ⟨rfl, rfl, rfl, by decide +kernel, rfl, by decide +kernel, by decide +kernel⟩
abbrev s_law_values : Stmt := topS 41
abbrev N_law_values : List Str := ["_law_state", "_law_name_here", "_law_text_here", "_law_at", "_law_made", "_law_odd"]
theorem sc_law_values : FnScope ["_law_state", "_law_name_here", "_law_text_here", "_law_at", "_law_made", "_law_odd"] ["_law_state"] (defScope s_law_values) := ⟨rfl, rfl, rfl, by decide +kernel, rfl, by decide +kernel, by decide +kernel⟩
abbrev s_law_refused_spot : Stmt := topS 42
abbrev N_law_refused_spot : List Str := ["_law_text_here", "_law_place", "e"]
theorem sc_law_refused_spot : FnScope ["_law_text_here", "_law_place", "e"] ["_law_text_here", "_law_place"] (defScope s_law_refused_spot) := ⟨rfl, rfl, rfl, by decide +kernel, rfl, by decide +kernel, by decide +kernel⟩
abbrev s_law_refused_line : Stmt := topS 43
abbrev N_law_refused_line : List Str := ["_law_text_here", "_law_line", "e", "f"]
theorem sc_law_refused_line : FnScope ["_law_text_here", "_law_line", "e", "f"] ["_law_text_here", "_law_line"] (defScope s_law_refused_line) := ⟨rfl, rfl, rfl, by decide +kernel, rfl, by decide +kernel, by decide +kernel⟩
abbrev s_law_rows : Stmt := topS 44
abbrev N_law_rows : List Str := ["_law_text_here", "_law_told_here", "_law_rows_here", "_law_k"]
theorem sc_law_rows : FnScope ["_law_text_here", "_law_told_here", "_law_rows_here", "_law_k"] ["_law_text_here", "_law_told_here", "_law_rows_here"] (defScope s_law_rows) := ⟨rfl, rfl, rfl, by decide +kernel, rfl, by decide +kernel, by decide +kernel⟩
abbrev s_law_walk : Stmt := topS 45
abbrev N_law_walk : List Str := ["_law_text_here", "_law_rows_here", "_law_spots", "_law_starts", "_law_k", "_law_line", "_law_end"]
theorem sc_law_walk : FnScope ["_law_text_here", "_law_rows_here", "_law_spots", "_law_starts", "_law_k", "_law_line", "_law_end"] ["_law_text_here"] (defScope s_law_walk) := ⟨rfl, rfl, rfl, by decide +kernel, rfl, by decide +kernel, by decide +kernel⟩
abbrev s_law_lines : Stmt := topS 46
abbrev N_law_lines : List Str := ["_law_state", "_law_text_here", "_law_every", "_law_rows_here", "_law_spots", "_law_starts", "_law_places", "_law_lines_here", "_law_place", "_law_told_here", "_law_line", "_law_wide", "_law_column", "_law_far", "_law_more", "_law_k"]
theorem sc_law_lines : FnScope ["_law_state", "_law_text_here", "_law_every", "_law_rows_here", "_law_spots", "_law_starts", "_law_places", "_law_lines_here", "_law_place", "_law_told_here", "_law_line", "_law_wide", "_law_column", "_law_far", "_law_more", "_law_k"] ["_law_state", "_law_text_here", "_law_every"] (defScope s_law_lines) := ⟨rfl, rfl, rfl, by decide +kernel, rfl, by decide +kernel, by decide +kernel⟩
abbrev s_law : Stmt := topS 47
abbrev N_law : List Str := ["_law_script", "_law_state", "_law_thing", "_law_rows_here", "_law_text_here", "_law_long", "_law_k", "_law_c"]
theorem sc_law : FnScope ["_law_script", "_law_state", "_law_thing", "_law_rows_here", "_law_text_here", "_law_long", "_law_k", "_law_c"] ["_law_script"] (defScope s_law) := ⟨rfl, rfl, rfl, by decide +kernel, rfl, by decide +kernel, by decide +kernel⟩
abbrev s_init_BadText : Stmt := inClass (topS 3) 0
theorem sc_init_BadText : FnScope ["self", "at"] ["self", "at"] (defScope s_init_BadText) := ⟨rfl, rfl, rfl, by decide +kernel, rfl, by decide +kernel, by decide +kernel⟩
abbrev s_init_BadPlace : Stmt := inClass (topS 4) 0
theorem sc_init_BadPlace : FnScope ["self", "at"] ["self", "at"] (defScope s_init_BadPlace) := ⟨rfl, rfl, rfl, by decide +kernel, rfl, by decide +kernel, by decide +kernel⟩
abbrev s_init_TooMuch : Stmt := inClass (topS 5) 0
theorem sc_init_TooMuch : FnScope ["self", "what"] ["self", "what"] (defScope s_init_TooMuch) := ⟨rfl, rfl, rfl, by decide +kernel, rfl, by decide +kernel, by decide +kernel⟩
structure Txt (K : PySem.W.Frag) (mg : Str → Option Value) where
  a_rows_of : Addr
  d_rows_of : FuncData
  F_rows_of : Fun K "rows_of" "rows_of" s_rows_of a_rows_of d_rows_of
  g_rows_of : mg "rows_of" = some (.ref a_rows_of)
  b_rows_of : Binds K d_rows_of ["text"] []
  a_joined : Addr
  d_joined : FuncData
  F_joined : Fun K "joined" "joined" s_joined a_joined d_joined
  g_joined : mg "joined" = some (.ref a_joined)
  b_joined : Binds K d_joined ["rows"] []
  a_spot_of : Addr
  d_spot_of : FuncData
  F_spot_of : Fun K "spot_of" "spot_of" s_spot_of a_spot_of d_spot_of
  g_spot_of : mg "spot_of" = some (.ref a_spot_of)
  b_spot_of : Binds K d_spot_of ["text", "place"] []
  a_place_of : Addr
  d_place_of : FuncData
  F_place_of : Fun K "place_of" "place_of" s_place_of a_place_of d_place_of
  g_place_of : mg "place_of" = some (.ref a_place_of)
  b_place_of : Binds K d_place_of ["text", "line", "column"] []
  a_row_bounds : Addr
  d_row_bounds : FuncData
  F_row_bounds : Fun K "row_bounds" "row_bounds" s_row_bounds a_row_bounds d_row_bounds
  g_row_bounds : mg "row_bounds" = some (.ref a_row_bounds)
  b_row_bounds : Binds K d_row_bounds ["text", "line"] []
  a_first_strange : Addr
  d_first_strange : FuncData
  F_first_strange : Fun K "first_strange" "first_strange" s_first_strange a_first_strange d_first_strange
  g_first_strange : mg "first_strange" = some (.ref a_first_strange)
  b_first_strange : Binds K d_first_strange ["text"] []
  a_is_text : Addr
  d_is_text : FuncData
  F_is_text : Fun K "is_text" "is_text" s_is_text a_is_text d_is_text
  g_is_text : mg "is_text" = some (.ref a_is_text)
  b_is_text : Binds K d_is_text ["thing"] []
  a_check_text : Addr
  d_check_text : FuncData
  F_check_text : Fun K "check_text" "check_text" s_check_text a_check_text d_check_text
  g_check_text : mg "check_text" = some (.ref a_check_text)
  b_check_text : Binds K d_check_text ["thing", "most"] []
  a_code_of : Addr
  d_code_of : FuncData
  F_code_of : Fun K "code_of" "code_of" s_code_of a_code_of d_code_of
  g_code_of : mg "code_of" = some (.ref a_code_of)
  b_code_of : Binds K d_code_of ["sign"] []
  a_sign_of : Addr
  d_sign_of : FuncData
  F_sign_of : Fun K "sign_of" "sign_of" s_sign_of a_sign_of d_sign_of
  g_sign_of : mg "sign_of" = some (.ref a_sign_of)
  b_sign_of : Binds K d_sign_of ["code"] []
  a_kind_of : Addr
  d_kind_of : FuncData
  F_kind_of : Fun K "kind_of" "kind_of" s_kind_of a_kind_of d_kind_of
  g_kind_of : mg "kind_of" = some (.ref a_kind_of)
  b_kind_of : Binds K d_kind_of ["sign"] []
  a_is_name : Addr
  d_is_name : FuncData
  F_is_name : Fun K "is_name" "is_name" s_is_name a_is_name d_is_name
  g_is_name : mg "is_name" = some (.ref a_is_name)
  b_is_name : Binds K d_is_name ["thing"] []
  a_law_start : Addr
  d_law_start : FuncData
  F_law_start : Fun K "_law_start" "_law_start" s_law_start a_law_start d_law_start
  g_law_start : mg "_law_start" = some (.ref a_law_start)
  b_law_start : Binds K d_law_start ["_law_script"] []
  a_law_draw : Addr
  d_law_draw : FuncData
  F_law_draw : Fun K "_law_draw" "_law_draw" s_law_draw a_law_draw d_law_draw
  g_law_draw : mg "_law_draw" = some (.ref a_law_draw)
  b_law_draw : Binds K d_law_draw ["_law_state", "_law_many"] []
  a_law_small : Addr
  d_law_small : FuncData
  F_law_small : Fun K "_law_small" "_law_small" s_law_small a_law_small d_law_small
  g_law_small : mg "_law_small" = some (.ref a_law_small)
  b_law_small : Binds K d_law_small [] []
  a_law_signs : Addr
  d_law_signs : FuncData
  F_law_signs : Fun K "_law_signs" "_law_signs" s_law_signs a_law_signs d_law_signs
  g_law_signs : mg "_law_signs" = some (.ref a_law_signs)
  b_law_signs : Binds K d_law_signs [] []
  a_law_kind : Addr
  d_law_kind : FuncData
  F_law_kind : Fun K "_law_kind" "_law_kind" s_law_kind a_law_kind d_law_kind
  g_law_kind : mg "_law_kind" = some (.ref a_law_kind)
  b_law_kind : Binds K d_law_kind ["_law_sign"] []
  a_law_text : Addr
  d_law_text : FuncData
  F_law_text : Fun K "_law_text" "_law_text" s_law_text a_law_text d_law_text
  g_law_text : mg "_law_text" = some (.ref a_law_text)
  b_law_text : Binds K d_law_text ["_law_state", "_law_size"] []
  a_law_is : Addr
  d_law_is : FuncData
  F_law_is : Fun K "_law_is" "_law_is" s_law_is a_law_is d_law_is
  g_law_is : mg "_law_is" = some (.ref a_law_is)
  b_law_is : Binds K d_law_is ["_law_due", "_law_told_here"] []
  a_law_told : Addr
  d_law_told : FuncData
  F_law_told : Fun K "_law_told" "_law_told" s_law_told a_law_told d_law_told
  g_law_told : mg "_law_told" = some (.ref a_law_told)
  b_law_told : Binds K d_law_told ["_law_due", "_law_told_here"] []
  a_law_pair : Addr
  d_law_pair : FuncData
  F_law_pair : Fun K "_law_pair" "_law_pair" s_law_pair a_law_pair d_law_pair
  g_law_pair : mg "_law_pair" = some (.ref a_law_pair)
  b_law_pair : Binds K d_law_pair ["_law_due", "_law_told_here"] []
  a_law_alphabet : Addr
  d_law_alphabet : FuncData
  F_law_alphabet : Fun K "_law_alphabet" "_law_alphabet" s_law_alphabet a_law_alphabet d_law_alphabet
  g_law_alphabet : mg "_law_alphabet" = some (.ref a_law_alphabet)
  b_law_alphabet : Binds K d_law_alphabet ["_law_state"] []
  a_law_first_wrong : Addr
  d_law_first_wrong : FuncData
  F_law_first_wrong : Fun K "_law_first_wrong" "_law_first_wrong" s_law_first_wrong a_law_first_wrong d_law_first_wrong
  g_law_first_wrong : mg "_law_first_wrong" = some (.ref a_law_first_wrong)
  b_law_first_wrong : Binds K d_law_first_wrong ["_law_thing"] []
  a_law_named : Addr
  d_law_named : FuncData
  F_law_named : Fun K "_law_named" "_law_named" s_law_named a_law_named d_law_named
  g_law_named : mg "_law_named" = some (.ref a_law_named)
  b_law_named : Binds K d_law_named ["_law_thing"] []
  a_law_checked : Addr
  d_law_checked : FuncData
  F_law_checked : Fun K "_law_checked" "_law_checked" s_law_checked a_law_checked d_law_checked
  g_law_checked : mg "_law_checked" = some (.ref a_law_checked)
  b_law_checked : Binds K d_law_checked ["_law_thing", "_law_most"] []
  a_law_value : Addr
  d_law_value : FuncData
  F_law_value : Fun K "_law_value" "_law_value" s_law_value a_law_value d_law_value
  g_law_value : mg "_law_value" = some (.ref a_law_value)
  b_law_value : Binds K d_law_value ["_law_state", "_law_thing"] []
  a_law_name : Addr
  d_law_name : FuncData
  F_law_name : Fun K "_law_name" "_law_name" s_law_name a_law_name d_law_name
  g_law_name : mg "_law_name" = some (.ref a_law_name)
  b_law_name : Binds K d_law_name ["_law_state", "_law_size"] []
  a_law_values : Addr
  d_law_values : FuncData
  F_law_values : Fun K "_law_values" "_law_values" s_law_values a_law_values d_law_values
  g_law_values : mg "_law_values" = some (.ref a_law_values)
  b_law_values : Binds K d_law_values ["_law_state"] []
  a_law_refused_spot : Addr
  d_law_refused_spot : FuncData
  F_law_refused_spot : Fun K "_law_refused_spot" "_law_refused_spot" s_law_refused_spot a_law_refused_spot d_law_refused_spot
  g_law_refused_spot : mg "_law_refused_spot" = some (.ref a_law_refused_spot)
  b_law_refused_spot : Binds K d_law_refused_spot ["_law_text_here", "_law_place"] []
  a_law_refused_line : Addr
  d_law_refused_line : FuncData
  F_law_refused_line : Fun K "_law_refused_line" "_law_refused_line" s_law_refused_line a_law_refused_line d_law_refused_line
  g_law_refused_line : mg "_law_refused_line" = some (.ref a_law_refused_line)
  b_law_refused_line : Binds K d_law_refused_line ["_law_text_here", "_law_line"] []
  a_law_rows : Addr
  d_law_rows : FuncData
  F_law_rows : Fun K "_law_rows" "_law_rows" s_law_rows a_law_rows d_law_rows
  g_law_rows : mg "_law_rows" = some (.ref a_law_rows)
  b_law_rows : Binds K d_law_rows ["_law_text_here", "_law_told_here", "_law_rows_here"] []
  a_law_walk : Addr
  d_law_walk : FuncData
  F_law_walk : Fun K "_law_walk" "_law_walk" s_law_walk a_law_walk d_law_walk
  g_law_walk : mg "_law_walk" = some (.ref a_law_walk)
  b_law_walk : Binds K d_law_walk ["_law_text_here"] []
  a_law_lines : Addr
  d_law_lines : FuncData
  F_law_lines : Fun K "_law_lines" "_law_lines" s_law_lines a_law_lines d_law_lines
  g_law_lines : mg "_law_lines" = some (.ref a_law_lines)
  b_law_lines : Binds K d_law_lines ["_law_state", "_law_text_here", "_law_every"] []
  a_law : Addr
  d_law : FuncData
  F_law : Fun K "law" "law" s_law a_law d_law
  g_law : mg "law" = some (.ref a_law)
  b_law : Binds K d_law ["_law_script"] []
  c_BadText : Addr
  ai_BadText : Addr
  d_BadText : FuncData
  F_BadText : Fun K "__init__" "BadText.__init__" s_init_BadText ai_BadText d_BadText
  b_BadText : Binds K d_BadText ["self", "at"] []
  g_BadText : mg "BadText" = some (.ref c_BadText)
  o_BadText : OexC K c_BadText
  x_BadText : XfC K c_BadText
  i_BadText : PySem.W.findIn K (.ref c_BadText) "__init__" = some (some (.ref ai_BadText))
  ti_BadText : PySem.W.typeIn K (.ref ai_BadText) = some (.type "function")
  e_BadText : PySem.W.exmOne K (.ref c_BadText) (.ref c_BadText) = some true
  na_BadText_at : PySem.W.findIn K (.ref c_BadText) "at" = some none
  c_BadPlace : Addr
  ai_BadPlace : Addr
  d_BadPlace : FuncData
  F_BadPlace : Fun K "__init__" "BadPlace.__init__" s_init_BadPlace ai_BadPlace d_BadPlace
  b_BadPlace : Binds K d_BadPlace ["self", "at"] []
  g_BadPlace : mg "BadPlace" = some (.ref c_BadPlace)
  o_BadPlace : OexC K c_BadPlace
  x_BadPlace : XfC K c_BadPlace
  i_BadPlace : PySem.W.findIn K (.ref c_BadPlace) "__init__" = some (some (.ref ai_BadPlace))
  ti_BadPlace : PySem.W.typeIn K (.ref ai_BadPlace) = some (.type "function")
  e_BadPlace : PySem.W.exmOne K (.ref c_BadPlace) (.ref c_BadPlace) = some true
  na_BadPlace_at : PySem.W.findIn K (.ref c_BadPlace) "at" = some none
  c_TooMuch : Addr
  ai_TooMuch : Addr
  d_TooMuch : FuncData
  F_TooMuch : Fun K "__init__" "TooMuch.__init__" s_init_TooMuch ai_TooMuch d_TooMuch
  b_TooMuch : Binds K d_TooMuch ["self", "what"] []
  g_TooMuch : mg "TooMuch" = some (.ref c_TooMuch)
  o_TooMuch : OexC K c_TooMuch
  x_TooMuch : XfC K c_TooMuch
  i_TooMuch : PySem.W.findIn K (.ref c_TooMuch) "__init__" = some (some (.ref ai_TooMuch))
  ti_TooMuch : PySem.W.typeIn K (.ref ai_TooMuch) = some (.type "function")
  e_TooMuch : PySem.W.exmOne K (.ref c_TooMuch) (.ref c_TooMuch) = some true
  na_TooMuch_what : PySem.W.findIn K (.ref c_TooMuch) "what" = some none
  u_TooMuch_BadText : PySem.W.exmOne K (.ref c_TooMuch) (.ref c_BadText) = some false
  q_BadText : ExcC K c_BadText
  q_BadPlace : ExcC K c_BadPlace
  q_TooMuch : ExcC K c_TooMuch
  t_DIGITS : Tok
  g_DIGITS : mg "DIGITS" = some (.str "0123456789" t_DIGITS)
  t_SMALL_LETTERS : Tok
  g_SMALL_LETTERS : mg "SMALL_LETTERS" = some (.str "abcdefghijklmnopqrstuvwxyz" t_SMALL_LETTERS)
  t_LETTERS : Tok
  g_LETTERS : mg "LETTERS" = some (.str "ABCDEFGHIJKLMNOPQRSTUVWXYZ_abcdefghijklmnopqrstuvwxyz" t_LETTERS)
  t_ALPHABET : Tok
  g_ALPHABET : mg "ALPHABET" = some (.str "\n !\"#$&'()*+,-./0123456789:;<=>?@ABCDEFGHIJKLMNOPQRSTUVWXYZ[\\]^_`abcdefghijklmnopqrstuvwxyz{|}~" t_ALPHABET)
  t_LONGEST_NAME : Tok
  g_LONGEST_NAME : mg "LONGEST_NAME" = some (.int 12 t_LONGEST_NAME)
  n_all : mg "all" = none
  n_bool : mg "bool" = none
  n_enumerate : mg "enumerate" = none
  n_int : mg "int" = none
  n_isinstance : mg "isinstance" = none
  n_len : mg "len" = none
  n_list : mg "list" = none
  n_max : mg "max" = none
  n_min : mg "min" = none
  n_range : mg "range" = none
  n_str : mg "str" = none
  n_sum : mg "sum" = none
  n_tuple : mg "tuple" = none
/-- the state of the draws -/
def cell (a : Addr) : Box where
  A := fun x => x = a
  B := fun H => Stt H a
  live := fun H h x e => by
    obtain ⟨z, q, _⟩ := h
    exact ⟨_, by rw [e]; exact q⟩
  keep := fun H H' h e => h.imp fun z q => ⟨e _ _ rfl q.1, q.2⟩
def spStartC (K : PySem.W.Frag) : Sp := fun vs H Q _ => ∃ (s : Addr) (ns : List Int), vs = [.ref s] ∧ SqL K H s (ns.map V.int) ∧ ∀ p H', Ex H H' → H p = none → Stt H' p → Q (.ref p) H'
def spDrawC : Sp := fun vs H Q _ => ∃ (a : Addr) (n : Int), vs = [.ref a, .int n] ∧ Stt H a ∧ 0 < n ∧ ∀ (d : Nat) H', (d : Int) < n → Drw (cell a) H H' → Q (.int (d : Nat)) H'
def SM : Str := "abcdefghijklmnopqrstuvwxyz"
def spSmall : Sp := fun vs H Q _ => vs = [] ∧ Q (.str SM) H
def spTextC : Sp := fun vs H Q _ => ∃ (a : Addr) (n : Nat), vs = [.ref a, .int (n : Nat)] ∧ Stt H a ∧ n ≤ 8000 ∧ ∀ o H', Drw (cell a) H H' → o.length = n → InAL o → Q (.str o) H'
theorem al_sign {d : Nat} (h : d < 95) : ∃ c, (cs AL)[d]? = some c ∧ c ∈ cs AL ∧ atI AL.cps.toList (d : Nat) = some c := by
  have hl : d < (cs AL).length := by rw [cs_len, AL_len]; exact h
  exact ⟨(cs AL)[d], List.getElem?_eq_getElem hl, List.getElem_mem hl, atI_nat (List.getElem?_eq_getElem hl)⟩
theorem join_signs (ls : List Nat) : cs (Txt.join "" (ls.map fun c => (⟨#[c]⟩ : Str))) = ls := by
  rw [cs_join, List.map_map]
  induction ls with
  | nil => rfl
  | cons c r ih => rw [List.map_cons, List.flatten_cons, ih]; rfl
theorem sum_signs (ls : List Nat) : ((ls.map fun c => (⟨#[c]⟩ : Str)).map (·.length)).sum = ls.length := by
  rw [List.map_map]
  induction ls with
  | nil => rfl
  | cons c r ih => rw [List.map_cons, List.sum_cons, ih, List.length_cons]; show 1 + _ = _; omega
theorem r_joinSg {K : PySem.W.Frag} {C : Addr} {ls : List Nat} {H : Hp} {Q : VK} (h : H C = some (.lst ((ls.map fun c => (⟨#[c]⟩ : Str)).map V.str))) (hl : ls.length ≤ 16777216) (q : ∀ o : Str, cs o = ls → Q (.str o) H) : rJoin K (.str "") [.ref C] H Q := by
  refine ⟨"", C, _, rfl, rfl, .inl (sqL h), ?_, q _ (join_signs ls)⟩
  rw [sum_signs]
  show ls.length + _ * 0 ≤ _
  omega
section
variable {P : Program} {w : World} {K : PySem.W.Frag} {mg : Str → Option Value} {base : Heap}
theorem ok_law_start (T : Txt K mg) : FnOk P w K mg base CX0 1 T.a_law_start T.d_law_start ["_law_script"] (spStartC K) := by
  refine T.F_law_start.ok sc_law_start (fun vs H Q E h => ?_) (fun cdv A outer s H vs Q E hr h => ?_)
  · obtain ⟨a, ns, rfl, _⟩ := h
    rfl
  · obtain ⟨a, ns, rfl, hS, q⟩ := h
    refine ⟨_, (pss_cons (ps_set (i := 1) sc_law_start.nd rfl (Or.inl rfl) pe_int)
        (pss_cons (ps_for PassesOwn.never rfl (pi_list (pv 0)) (pg_name (i := 2) sc_law_start.nd rfl (Or.inl rfl)) (pss_one (ps_set (i := 1) sc_law_start.nd rfl (Or.inl rfl) (pe_op op_modP (pe_op op_addU (pe_op op_addU (pe_op op_mulWW (pv 1) pe_int) (pe_op op_modP (pe_callTy call_intU (by rfl) T.n_int (by decide +kernel) (pa_cons (pv 2) pa_nil)) pe_int)) pe_int) pe_int))))
        (pss_one (ps_ret (pe_lst (pa_cons (pv 1) pa_nil)))))), ?_⟩
    walk_at "rd"
    refine l_L hS (fun i σ H' => ∃ z y, σ = [some (.ref a), some (.int z), y] ∧ 0 ≤ z ∧ z < M61 ∧ H' = H) ⟨_, none, rfl, by decide, by decide, rfl⟩ (fun i σ H' h => ?_) (fun i x σ H' hx hP => ?_) (fun σ H' hP => ?_)
    · obtain ⟨_, _, _, _, _, rfl⟩ := h
      exact hS
    · obtain ⟨z, y, rfl, h0, h1, rfl⟩ := hP
      obtain ⟨c, hc, rfl⟩ : ∃ c, ns[i]? = some c ∧ x = V.int c := by
        rw [List.getElem?_map] at hx
        cases e : ns[i]? with
        | none => rw [e] at hx; cases hx
        | some c => rw [e] at hx; exact ⟨c, rfl, (Option.some.inj hx).symm⟩
      walk_at "rd"
      refine r_mulW (wide_mul (a := 61) (b := 33) (nat61 h0 h1) (by decide) (by decide) (by decide) (by decide)) ?_
      walk_at "rd"
      exact ⟨_, _, rfl, (mix_next (z := z) _).1, (mix_next (z := z) _).2, rfl⟩
    · obtain ⟨z, y, rfl, h0, h1, rfl⟩ := hP
      walk_at "rd"
      exact r_small (Nat.le_of_ble_eq_true rfl) fun p hp => q p _ (Same.new (Same.refl _) hp) hp ⟨z, upd_same, h0, h1⟩
theorem ok_law_draw (T : Txt K mg) : FnOk P w K mg base CX0 1 T.a_law_draw T.d_law_draw ["_law_state", "_law_many"] spDrawC := by
  refine T.F_law_draw.ok sc_law_draw (fun vs H Q E h => ?_) (fun cdv A outer s H vs Q E hr h => ?_)
  · obtain ⟨a, n, rfl, _⟩ := h
    rfl
  · obtain ⟨a, n, rfl, ⟨z, hz, z0, z1⟩, hn, q⟩ := h
    refine ⟨_, (pss_cons (ps_asg (pe_op op_modP (pe_op op_addU (pe_op op_mulWW (pe_callTy call_intU (by rfl) T.n_int (by decide +kernel) (pa_cons (pe_ix ix_seq (pv 0) pe_int (fun _ _ => rfl)) pa_nil)) pe_int) pe_int) pe_int) (pg_sub (pv 0) pe_int set_list))
        (pss_one (ps_ret (pe_op op_modP (pe_op op_divW (pe_callTy call_intU (by rfl) T.n_int (by decide +kernel) (pa_cons (pe_ix ix_seq (pv 0) pe_int (fun _ _ => rfl)) pa_nil)) pe_int) (pv 1))))), ?_⟩
    walk_at "rd"
    refine r_ixL (sqL hz) (atI_nat (j := 0) rfl) ?_
    walk_at "rd"
    refine r_mulW (wide_mul (a := 61) (b := 41) (nat61 z0 z1) (by decide) (by decide) (by decide) (by decide)) ?_
    walk_at "rd"
    refine r_setL hz (n := 0) rfl ?_
    walk_at "rd"
    refine r_ixL (sqL upd_same) (atI_nat (j := 0) rfl) ?_
    walk_at "rd"
    refine r_divW (wide_div (b := 20) (by decide) (by decide) (by decide) (by decide)) ?_
    walk_at "rd"
    refine r_modP hn ?_
    have e0 := Int.emod_nonneg ((z * 950706376093 + 12011) % 2305843009213693951 / 524288) (show n ≠ 0 by omega)
    obtain ⟨d, hd⟩ := Int.eq_ofNat_of_zero_le e0
    rw [hd]
    exact q d _ (by rw [← hd]; exact Int.emod_lt_of_pos _ hn) ⟨fun b o nb e => by rw [upd_ne nb]; exact e, _, upd_same, (mix_next (z := z) _).1, (mix_next (z := z) _).2⟩
theorem ok_law_small (T : Txt K mg) : FnOk P w K mg base CX0 1 T.a_law_small T.d_law_small [] spSmall := by
  refine T.F_law_small.ok sc_law_small (fun vs H Q E h => ?_) (fun cdv A outer s H vs Q E hr h => ?_)
  · obtain ⟨rfl, _⟩ := h
    rfl
  · obtain ⟨rfl, q⟩ := h
    refine ⟨_, (pss_one (ps_ret pe_str)), ?_⟩
    walk_at "rd"
    exact q
theorem ok_law_signs (T : Txt K mg) : FnOk P w K mg base CX0 2 T.a_law_signs T.d_law_signs [] spSigns := by
  refine T.F_law_signs.ok sc_law_signs (fun vs H Q E h => ?_) (fun cdv A outer s H vs Q E hr h => ?_)
  · obtain ⟨rfl, _⟩ := h
    rfl
  · obtain ⟨rfl, q⟩ := h
    refine ⟨_, (pss_cons (ps_set (i := 0) sc_law_signs.nd rfl (Or.inl rfl) pe_str)
        (pss_one (ps_ret (pe_op op_addU (pe_op op_addU (pv 0) (pe_call0 (ok_law_small T) hr (by rfl) T.g_law_small T.F_law_small.kp T.b_law_small .nil pass0)) pe_str)))), ?_⟩
    walk_at "rd"
    refine ⟨rfl, ?_⟩
    refine r_addS (by decide +kernel) ?_
    walk_at "rd"
    refine r_addS (by decide +kernel) ?_
    have e : ∀ a b c : Str, a ++ b ++ c = AL → Q (.str (a ++ b ++ c)) H := fun a b c h => by rw [h]; exact q
    exact e _ _ _ (by decide +kernel)
theorem ok_law_text (T : Txt K mg) : FnOk P w K mg base CX0 3 T.a_law_text T.d_law_text ["_law_state", "_law_size"] spTextC := by
  refine T.F_law_text.ok sc_law_text (fun vs H Q E h => ?_) (fun cdv A outer s H vs Q E hr h => ?_)
  · obtain ⟨a, n, rfl, _⟩ := h
    rfl
  · obtain ⟨a, n, rfl, hs, hn, q⟩ := h
    refine ⟨_, (pss_cons (ps_set (i := 2) sc_law_text.nd rfl (Or.inl rfl) (pe_call0 (ok_law_signs T) hr (by rfl) T.g_law_signs T.F_law_signs.kp T.b_law_signs .nil pass0))
        (pss_cons (ps_set (i := 3) sc_law_text.nd rfl (Or.inl rfl) (pe_lst (pa_cons pe_str (pa_cons pe_str (pa_cons pe_str (pa_cons pe_str (pa_cons (pe_ix ix_seq (pv 2) (pe_call (ok_law_draw T) (hr.mono (by decide)) (by rfl) T.g_law_draw T.F_law_draw.kp T.b_law_draw .nil pass0 (pa_cons (pv 0) (pa_cons pe_int pa_nil))) (fun _ _ => rfl)) pa_nil)))))))
        (pss_cons (ps_set (i := 4) sc_law_text.nd rfl (Or.inl rfl) (pe_lst pa_nil))
        (pss_cons (ps_for PassesOwn.never rfl (pi_range1 (by rfl) T.n_range (pa_cons (pv 1) pa_nil)) (pg_name (i := 5) sc_law_text.nd rfl (Or.inl rfl)) (pss_cons (ps_set (i := 6) sc_law_text.nd rfl (Or.inl rfl) (pe_call (ok_law_draw T) (hr.mono (by decide)) (by rfl) T.g_law_draw T.F_law_draw.kp T.b_law_draw .nil pass0 (pa_cons (pv 0) (pa_cons pe_int pa_nil))))
        (pss_one (ps_if (pt_cmpR op_lt (pv 6) pe_int (nomark _)) (pss_one (ps_expr (pe_bm PySem.F.plainAttrs_list PySem.F.slot_list_append PySem.F.type_list_append mt_append (pv 4) (pa_cons (pe_ix ix_seq (pv 3) (pv 6) (fun _ _ => rfl)) pa_nil)))) (pss_one (ps_expr (pe_bm PySem.F.plainAttrs_list PySem.F.slot_list_append PySem.F.type_list_append mt_append (pv 4) (pa_cons (pe_ix ix_seq (pv 2) (pe_call (ok_law_draw T) (hr.mono (by decide)) (by rfl) T.g_law_draw T.F_law_draw.kp T.b_law_draw .nil pass0 (pa_cons (pv 0) (pa_cons pe_int pa_nil))) (fun _ _ => rfl)) pa_nil))))))))
        (pss_one (ps_ret (pe_join pe_str (pv 4)))))))), ?_⟩
    have al : AL.length ≤ sizeLine := by rw [AL_len]; decide
    walk_at "rd"
    refine ⟨rfl, ?_⟩
    walk_at "rd"
    refine ⟨a, 95, rfl, hs, by decide, fun d H1 d1 D1 => ?_⟩
    walk_at "rd"
    obtain ⟨c, _, hcA, ha⟩ := al_sign (d := d) (by omega)
    refine r_ixS al ha ?_
    walk_at "rd"
    refine r_small nsz fun f hf => ?_
    have naf := (cell a).fresh D1.st hf
    obtain ⟨H2, eH2, x2, gf⟩ := new1 hf (.lst [.str "\n", .str "\n", .str "a", .str " ", .str ⟨#[c]⟩])
    rw [← eH2]
    have D2 := D1.then x2
    walk_at "rd"
    refine r_small nsz fun m hm => ?_
    have nam := (cell a).fresh D2.st hm
    have hfm : f ≠ m := fun z => by rw [← z, gf] at hm; cases hm
    have few : ∀ k : Nat, k < 5 → ∃ x : Nat, [V.str "\n", .str "\n", .str "a", .str " ", .str ⟨#[c]⟩][k]? = some (.str ⟨#[x]⟩) ∧ x ∈ cs AL := by
      intro k hk
      match k, hk with
      | 0, _ => exact ⟨10, rfl, by decide +kernel⟩
      | 1, _ => exact ⟨10, rfl, by decide +kernel⟩
      | 2, _ => exact ⟨97, rfl, by decide +kernel⟩
      | 3, _ => exact ⟨32, rfl, by decide +kernel⟩
      | 4, _ => exact ⟨c, rfl, hcA⟩
    have fr : H m = none := by
      cases e : H m with
      | none => rfl
      | some o => rw [D2.at nam e] at hm; cases hm
    walk_at "rd"
    refine l_R (by omega) (by omega) (fun i σ H' => ∃ y1 y2 ls, σ = [some (.ref a), some (.int (n : Nat)), some (.str AL), some (.ref f), some (.ref m), y1, y2] ∧ Drw (cell a) H H' ∧
      H' f = some (.lst [.str "\n", .str "\n", .str "a", .str " ", .str ⟨#[c]⟩]) ∧ H' m = some (.lst ((ls.map fun c => (⟨#[c]⟩ : Str)).map V.str)) ∧ ls.length = i ∧ ∀ c ∈ ls, c ∈ cs AL) ⟨none, none, [], rfl, D2.new hm, by rw [upd_ne hfm]; exact gf, upd_same, rfl, fun _ h => nomatch h⟩ (fun i σ H' hi hP => ?_) (fun σ H' hP => ?_)
    · obtain ⟨y1, y2, ls, rfl, D, hf', hm', hl, hA⟩ := hP
      walk_at "rd"
      refine ⟨a, 10, rfl, D.st, by decide, fun p H3 p1 D3 => ?_⟩
      walk_at "rd"
      have put : ∀ (c' : Nat) (H4 : Hp) (y1 y2 : Option V), Drw (cell a) H' H4 → c' ∈ cs AL → ∃ (y1' y2' : Option V) (ls' : List Nat), [some (V.ref a), some (.int (n : Nat)), some (.str AL), some (.ref f), some (.ref m), y1, y2] = [some (V.ref a), some (.int (n : Nat)), some (.str AL), some (.ref f), some (.ref m), y1', y2'] ∧
          Drw (cell a) H (upd H4 m (.lst ((ls.map fun c => (⟨#[c]⟩ : Str)).map V.str ++ [.str ⟨#[c']⟩]))) ∧ upd H4 m (.lst ((ls.map fun c => (⟨#[c]⟩ : Str)).map V.str ++ [.str ⟨#[c']⟩])) f = some (.lst [.str "\n", .str "\n", .str "a", .str " ", .str ⟨#[c]⟩]) ∧
          upd H4 m (.lst ((ls.map fun c => (⟨#[c]⟩ : Str)).map V.str ++ [.str ⟨#[c']⟩])) m = some (.lst ((ls'.map fun c => (⟨#[c]⟩ : Str)).map V.str)) ∧ ls'.length = i + 1 ∧ ∀ c ∈ ls', c ∈ cs AL := by
        intro c' H4 y1 y2 D4 hc'
        refine ⟨y1, y2, ls ++ [c'], rfl, (D.trans D4).put fr nam, by rw [upd_ne hfm]; exact D4.at naf hf', by rw [upd_same, List.map_append, List.map_append]; rfl, by rw [List.length_append, hl]; rfl, fun x hx => ?_⟩
        rcases List.mem_append.mp hx with h | h
        · exact hA x h
        · rw [List.mem_singleton.mp h]; exact hc'
      have sm : (List.map V.str (ls.map fun c => (⟨#[c]⟩ : Str))).length < sizeLine := by
        rw [List.length_map, List.length_map]
        exact Nat.lt_of_le_of_lt (show ls.length ≤ 8000 by omega) (by decide)
      refine r_ite (fun h5 => ?_) (fun h5 => ?_)
      · obtain ⟨x, hx, hxA⟩ := few p (by omega)
        walk_at "rd"
        refine r_tyL (sqL (D3.at nam hm')) ?_
        walk_at "rd"
        refine r_ixL (sqL (D3.at naf hf')) (atI_nat hx) ?_
        walk_at "rd"
        refine r_app (D3.at nam hm') sm ?_
        walk_at "rd"
        exact put x H3 _ _ D3 hxA
      · walk_at "rd"
        refine r_tyL (sqL (D3.at nam hm')) ?_
        walk_at "rd"
        refine ⟨a, 95, rfl, D3.st, by decide, fun d2 H4 e2 D4 => ?_⟩
        obtain ⟨x, _, hxA, hx⟩ := al_sign (d := d2) (by omega)
        walk_at "rd"
        refine r_ixS al hx ?_
        walk_at "rd"
        refine r_app (D4.at nam (D3.at nam hm')) sm ?_
        walk_at "rd"
        exact put x H4 _ _ (D3.trans D4) hxA
    · obtain ⟨y1, y2, ls, rfl, D, hf', hm', hl, hA⟩ := hP
      rw [Int.toNat_natCast] at hl
      walk_at "rd"
      refine ⟨⟨_, rfl⟩, ?_⟩
      walk_at "rd"
      refine r_joinSg hm' (by omega) fun o ho => q o H' D (by rw [← cs_len, ho]; exact hl) (fun c hc => hA c (by rw [ho] at hc; exact hc))
end
end K17

namespace K17
open PySem PySem.Spec PyProof.Rows L2 Dk Q48
/-- one step of a reading -/
local macro_rules | `(tactic| walk_at "rd1") => `(tactic| first
  | ((with_reducible refine r_var (v := ?rv) ?rh ?_); (case rh => rfl))
  | with_reducible refine r_c ?_
  | with_reducible refine r_seq ?_
  | with_reducible refine r_asg ?_
  | with_reducible refine r_par ?_
  | with_reducible refine r_gname ?_
  | with_reducible refine r_op ?_
  | with_reducible refine r_forLo ?_
  | with_reducible refine r_forTo ?_
  | with_reducible refine r_forSo ?_
  | with_reducible refine r_forRo ?_
  | with_reducible refine r_forRvo ?_
  | with_reducible refine r_forZo ?_
  | with_reducible refine r_revS ?_
  | with_reducible refine r_lcRo ?_
  | with_reducible refine r_lcLo ?_
  | with_reducible refine r_yes ?_
  | with_reducible refine r_callK0 ?_
  | with_reducible refine r_break ?_
  | with_reducible refine r_continue ?_
  | with_reducible refine r_forR2o ?_
  | with_reducible refine r_forEo ?_
  | with_reducible refine r_forESo ?_
  | with_reducible refine r_xfo ?_
  | with_reducible refine r_noP ?_
  | with_reducible refine r_part ?_
  | with_reducible refine r_pI ?_
  | with_reducible refine r_gcons ?_
  | with_reducible refine r_gnil ?_
  | with_reducible refine r_mkO ?_
  | with_reducible refine r_un ?_
  | with_reducible refine r_addI ?_
  | with_reducible refine r_I0 ?_
  | with_reducible refine r_U ?_
  | with_reducible refine r_cons ?_
  | with_reducible refine r_nil ?_
  | with_reducible refine r_CB ?_
  | with_reducible refine r_call ?_
  | with_reducible refine r_callS ?_
  | with_reducible refine r_int ?_
  | with_reducible refine r_max ?_
  | with_reducible refine r_min ?_
  | with_reducible refine r_test ?_
  | with_reducible refine r_B ?_
  | with_reducible refine r_blv ?_
  | with_reducible refine r_and ?_
  | with_reducible refine r_or ?_
  | with_reducible refine r_not ?_
  | with_reducible refine r_andV ?_
  | with_reducible refine r_orV ?_
  | with_reducible refine r_notV ?_
  | with_reducible refine r_ifE ?_
  | with_reducible refine r_ifS ?_
  | with_reducible refine r_ret ?_
  | with_reducible refine r_retN ?_
  | with_reducible refine r_drop ?_
  | with_reducible refine r_next ?_
  | with_reducible refine r_sl ?_
  | with_reducible refine r_gsub ?_
  | with_reducible refine r_bm ?_
  | with_reducible refine r_bm0 ?_
  | with_reducible refine r_tup ?_
  | with_reducible refine r_lst ?_
  | with_reducible refine r_isN ?_
  | with_reducible refine r_notN ?_
  | with_reducible refine r_chain ?_
  | with_reducible refine r_callK ?_
  | with_reducible refine r_isB ?_
  | with_reducible refine r_lcEio ?_
  | with_reducible refine r_forEi ?_
  | with_reducible refine r_lcTo ?_
  | with_reducible refine r_lcSo ?_
  | with_reducible refine r_m1 ?_
  | with_reducible refine r_dget ?_
  | with_reducible refine r_din ?_
  | with_reducible refine r_dnotin ?_
  | with_reducible refine r_starC ?_
  | with_reducible refine r_callKS ?_
  | with_reducible refine r_itt ?_
  | with_reducible refine r_iff ?_
  | with_reducible refine r_ittN ?_
  | with_reducible refine r_iffN ?_
  | ((with_reducible refine r_ittD ?rh ?_); (case rh => rfl))
  | ((with_reducible refine r_iffD ?rh ?_); (case rh => rfl))
  | ((with_reducible refine r_modP ?rh ?_); (case rh => decide))
  | ((with_reducible refine r_eq ?rh ?_); (case rh => rfl))
  | ((with_reducible refine r_eqP ?rh ?_); (case rh => rfl))
  | ((with_reducible refine r_ne ?rh ?_); (case rh => rfl)))
local macro_rules | `(tactic| walk_at "rd") => `(tactic| repeat walk_at "rd1")
local macro_rules | `(tactic| walk_at "isi") => `(tactic| first | refine r_isi (b := true) (by assumption) (by decide +kernel) ?_ | refine r_isi (b := false) (by assumption) (by decide +kernel) ?_)
local macro_rules | `(tactic| walk_at "rs1") => `(tactic| first
  | with_reducible refine r_seq ?_
  | with_reducible refine r_asg ?_
  | with_reducible refine r_gname ?_
  | with_reducible refine r_ret ?_)
local macro_rules | `(tactic| walk_at "rs") => `(tactic| repeat walk_at "rs1")

def DG : Str := "0123456789"
def CP : Str := "ABCDEFGHIJKLMNOPQRSTUVWXYZ_"
def LT : Str := "ABCDEFGHIJKLMNOPQRSTUVWXYZ_abcdefghijklmnopqrstuvwxyz"
theorem lt_cat : LT.cps.toList = CP.cps.toList ++ SM.cps.toList := by decide +kernel
def kn (c : Nat) : Str := if c = 10 then "feed" else if c = 32 then "blank" else if c ∈ DG.cps.toList then "digit" else if c ∈ LT.cps.toList then "letter" else "other"
def spKind : Sp := fun vs H Q _ => ∃ c : Nat, vs = [.str ⟨#[c]⟩] ∧ Q (.str (kn c)) H
def spIs : Sp := fun vs H Q _ => ∃ x : Int, vs = [.int x, .int x] ∧ Q (.bl true) H
def spTold : Sp := fun vs H Q _ => ∃ x : Bool, vs = [.bl x, .bl x] ∧ Q (.bl true) H
def spPair : Sp := fun vs H Q _ => ∃ (v1 v2 : V) (x : Int × Int), vs = [v1, v2] ∧ PrV H v1 x ∧ PrV H v2 x ∧ Q (.bl true) H
def spCode : Sp := fun vs H Q _ => ∃ (d c : Nat), vs = [.str ⟨#[c]⟩] ∧ (cs AL)[d]? = some c ∧ Q (.int (d : Nat)) H
def spSign : Sp := fun vs H Q _ => ∃ (d c : Nat), vs = [.int (d : Nat)] ∧ (cs AL)[d]? = some c ∧ Q (.str ⟨#[c]⟩) H
def spAlpha : Sp := fun vs H Q _ => ∃ a : Addr, vs = [.ref a] ∧ Stt H a ∧ ∀ H', Drw (cell a) H H' → Q (.bl true) H'
theorem occ_all : (List.range 95).all (fun d => decide ((Builtin.Str.occurrences AL ⟨#[(cs AL).getD d 0]⟩ 0 AL.length 1).head? = some d)) = true := by decide +kernel
theorem occ_at {d c : Nat} (h : (cs AL)[d]? = some c) : ∃ r, Builtin.Str.occurrences AL ⟨#[c]⟩ 0 AL.length 1 = d :: r := by
  have hd : d < 95 := by
    have := (List.getElem?_eq_some_iff.mp h).1
    rw [cs_len, AL_len] at this
    exact this
  have k := of_decide_eq_true (List.all_eq_true.mp occ_all d (List.mem_range.mpr hd))
  rw [List.getD_eq_getElem?_getD, h] at k
  cases e : Builtin.Str.occurrences AL ⟨#[c]⟩ 0 AL.length 1 with
  | nil => rw [show ((some c).getD 0) = c from rfl, e] at k; cases k
  | cons x r => rw [show ((some c).getD 0) = c from rfl, e] at k; cases k; exact ⟨r, rfl⟩
section
variable {P : Program} {w : World} {K : PySem.W.Frag} {mg : Str → Option Value} {base : Heap}
theorem ok_law_is (T : Txt K mg) : FnOk P w K mg base CX0 1 T.a_law_is T.d_law_is ["_law_due", "_law_told_here"] spIs := by
  refine T.F_law_is.ok sc_law_is (fun vs H Q E h => ?_) (fun cdv A outer s H vs Q E hr h => ?_)
  · obtain ⟨x, rfl, _⟩ := h
    rfl
  · obtain ⟨x, rfl, q⟩ := h
    refine ⟨_, (pss_one (ps_ret (pe_and (pe_callB call_isi (by rfl) T.n_isinstance (by decide +kernel) (pa_cons (pv 1) (pa_cons (pe_bltn (v := .ty "int") (by rfl) T.n_int (by decide +kernel) rfl) pa_nil))) (pe_and (pe_not (pe_callB call_isi (by rfl) T.n_isinstance (by decide +kernel) (pa_cons (pv 1) (pa_cons (pe_bltn (v := .ty "bool") (by rfl) T.n_bool (by decide +kernel) rfl) pa_nil)))) (pe_one (pe_cmpR (op_eqU hr.units) (pv 1) (pv 0) (nomark _))))))), ?_⟩
    walk_at "rd"
    refine r_isi (b := true) (.base (.int x)) (by decide +kernel) ?_
    walk_at "rd"
    refine r_isi (b := false) (.base (.int x)) (by decide +kernel) ?_
    walk_at "rd"
    rw [decide_eq_true rfl]
    exact q
theorem okH_law_is (T : Txt K mg) : FnH0 P w K mg base 1 T.a_law_is T.d_law_is ["_law_due", "_law_told_here"] spIs := by
  refine fun_okH T.F_law_is sc_law_is (fun vs H Q E h => ?_) (fun cdv A outer s H vs Q E p hh hr h => ?_)
  · obtain ⟨x, rfl, _⟩ := h
    rfl
  · obtain ⟨x, rfl, q⟩ := h
    refine ⟨_, (pss_one (ps_ret (pe_and (pe_callB call_isi (by rfl) T.n_isinstance (by decide +kernel) (pa_cons (pv 1) (pa_cons (pe_bltn (v := .ty "int") (by rfl) T.n_int (by decide +kernel) rfl) pa_nil))) (pe_and (pe_not (pe_callB call_isi (by rfl) T.n_isinstance (by decide +kernel) (pa_cons (pv 1) (pa_cons (pe_bltn (v := .ty "bool") (by rfl) T.n_bool (by decide +kernel) rfl) pa_nil)))) (pe_one (pe_cmpR (op_eqU hr.units) (pv 1) (pv 0) (nomark _))))))), ?_⟩
    walk_at "rd"
    refine r_isi (b := true) (.base (.int x)) (by decide +kernel) ?_
    walk_at "rd"
    refine r_isi (b := false) (.base (.int x)) (by decide +kernel) ?_
    walk_at "rd"
    rw [decide_eq_true rfl]
    exact q
theorem ok_law_told (T : Txt K mg) : FnOk P w K mg base CX0 1 T.a_law_told T.d_law_told ["_law_due", "_law_told_here"] spTold := by
  refine T.F_law_told.ok sc_law_told (fun vs H Q E h => ?_) (fun cdv A outer s H vs Q E hr h => ?_)
  · obtain ⟨x, rfl, _⟩ := h
    rfl
  · obtain ⟨x, rfl, q⟩ := h
    refine ⟨_, (pss_one (ps_ret (pe_and (pe_callB call_isi (by rfl) T.n_isinstance (by decide +kernel) (pa_cons (pv 1) (pa_cons (pe_bltn (v := .ty "bool") (by rfl) T.n_bool (by decide +kernel) rfl) pa_nil))) (pe_one (pe_cmpR (op_eqU hr.units) (pv 1) (pv 0) (nomark _)))))), ?_⟩
    walk_at "rd"
    refine r_isi (b := true) (.base (.bl x)) (by decide +kernel) ?_
    walk_at "rd"
    rw [decide_eq_true rfl]
    exact q
theorem ok_law_pair (T : Txt K mg) : FnOk P w K mg base CX0 2 T.a_law_pair T.d_law_pair ["_law_due", "_law_told_here"] spPair := by
  refine T.F_law_pair.ok sc_law_pair (fun vs H Q E h => ?_) (fun cdv A outer s H vs Q E hr h => ?_)
  · obtain ⟨v1, v2, x, rfl, _⟩ := h
    rfl
  · obtain ⟨v1, v2, x, rfl, ⟨p1, rfl, h1⟩, ⟨p2, rfl, h2⟩, q⟩ := h
    refine ⟨_, (pss_cons (ps_if (PW.pt (pw_or (pt_not (pt_val (pe_callB call_isi (by rfl) T.n_isinstance (by decide +kernel) (pa_cons (pv 1) (pa_cons (pe_bltn (v := .ty "tuple") (by rfl) T.n_tuple (by decide +kernel) rfl) pa_nil))))) (pw_or1 (pt_cmpR (op_neU hr.units) (pe_callB call_lenU (by rfl) T.n_len (by decide +kernel) (pa_cons (pv 1) pa_nil)) pe_int (nomark _))))) (pss_one (ps_ret pe_bl)) pss_nil)
        (pss_one (ps_ret (pe_and (pe_call (ok_law_is T) hr (by rfl) T.g_law_is T.F_law_is.kp T.b_law_is .nil pass0 (pa_cons (pe_ix ix_seq (pv 0) pe_int (fun _ _ => rfl)) (pa_cons (pe_ix ix_seq (pv 1) pe_int (fun _ _ => rfl)) pa_nil))) (pe_one (pe_call (ok_law_is T) hr (by rfl) T.g_law_is T.F_law_is.kp T.b_law_is .nil pass0 (pa_cons (pe_ix ix_seq (pv 0) pe_int (fun _ _ => rfl)) (pa_cons (pe_ix ix_seq (pv 1) pe_int (fun _ _ => rfl)) pa_nil)))))))), ?_⟩
    walk_at "rd"
    refine r_isi (b := true) (.base (.tup h2)) (by decide +kernel) ?_
    walk_at "rd"
    refine r_lenT (sqT h2) ?_
    walk_at "rd"
    refine r_ixT (sqT h1) (atI_nat (j := 0) rfl) ?_
    walk_at "rd"
    refine r_ixT (sqT h2) (atI_nat (j := 0) rfl) ?_
    walk_at "rd"
    refine ⟨_, rfl, ?_⟩
    walk_at "rd"
    refine r_ixT (sqT h1) (atI_nat (j := 1) rfl) ?_
    walk_at "rd"
    refine r_ixT (sqT h2) (atI_nat (j := 1) rfl) ?_
    walk_at "rd"
    refine ⟨_, rfl, ?_⟩
    walk_at "rd"
    exact q
theorem ok_code_of (T : Txt K mg) : FnOk P w K mg base CX0 1 T.a_code_of T.d_code_of ["sign"] spCode := by
  refine T.F_code_of.ok sc_code_of (fun vs H Q E h => ?_) (fun cdv A outer s H vs Q E hr h => ?_)
  · obtain ⟨d, c, rfl, _⟩ := h
    rfl
  · obtain ⟨d, c, rfl, hd, q⟩ := h
    refine ⟨_, (pss_one (ps_ret (pe_bm PySem.F.plainAttrs_str PySem.F.slot_str_index PySem.F.type_str_index mt_sindex (pe_glob (v := .str "\n !\"#$&'()*+,-./0123456789:;<=>?@ABCDEFGHIJKLMNOPQRSTUVWXYZ[\\]^_`abcdefghijklmnopqrstuvwxyz{|}~") rfl T.g_ALPHABET ⟨_, rfl⟩) (pa_cons (pv 0) pa_nil)))), ?_⟩
    walk_at "rd"
    refine r_tyS ?_
    walk_at "rd"
    obtain ⟨r, hr⟩ := occ_at hd
    exact ⟨AL, _, d, r, rfl, rfl, hr, q⟩
theorem ok_sign_of (T : Txt K mg) : FnOk P w K mg base CX0 1 T.a_sign_of T.d_sign_of ["code"] spSign := by
  refine T.F_sign_of.ok sc_sign_of (fun vs H Q E h => ?_) (fun cdv A outer s H vs Q E hr h => ?_)
  · obtain ⟨d, c, rfl, _⟩ := h
    rfl
  · obtain ⟨d, c, rfl, hd, q⟩ := h
    refine ⟨_, (pss_one (ps_ret (pe_ix ix_seq (pe_glob (v := .str "\n !\"#$&'()*+,-./0123456789:;<=>?@ABCDEFGHIJKLMNOPQRSTUVWXYZ[\\]^_`abcdefghijklmnopqrstuvwxyz{|}~") rfl T.g_ALPHABET ⟨_, rfl⟩) (pv 0) (fun _ _ => rfl)))), ?_⟩
    walk_at "rd"
    exact r_ixS (z := AL) (by rw [AL_len]; decide) (atI_nat hd) q
theorem ok_kind_of (T : Txt K mg) : FnOk P w K mg base CX0 1 T.a_kind_of T.d_kind_of ["sign"] spKind := by
  refine T.F_kind_of.ok sc_kind_of (fun vs H Q E h => ?_) (fun cdv A outer s H vs Q E hr h => ?_)
  · obtain ⟨c, rfl, _⟩ := h
    rfl
  · obtain ⟨c, rfl, q⟩ := h
    refine ⟨_, (pss_cons (ps_if (pt_cmpR (op_eqU hr.units) (pv 0) pe_str (nomark _)) (pss_one (ps_ret pe_str)) pss_nil)
        (pss_cons (ps_if (pt_cmpR (op_eqU hr.units) (pv 0) pe_str (nomark _)) (pss_one (ps_ret pe_str)) pss_nil)
        (pss_cons (ps_if (pt_cmpR op_inU (pv 0) (pe_glob (v := .str "0123456789") rfl T.g_DIGITS ⟨_, rfl⟩) (by rfl)) (pss_one (ps_ret pe_str)) pss_nil)
        (pss_cons (ps_if (pt_cmpR op_inU (pv 0) (pe_glob (v := .str "ABCDEFGHIJKLMNOPQRSTUVWXYZ_abcdefghijklmnopqrstuvwxyz") rfl T.g_LETTERS ⟨_, rfl⟩) (by rfl)) (pss_one (ps_ret pe_str)) pss_nil)
        (pss_one (ps_ret pe_str)))))), ?_⟩
    have tlS : ∀ {d : Nat}, ((⟨#[c]⟩ : Str) = ⟨#[d]⟩) ↔ c = d := fun {d} => ⟨fun h => by injection h with h; injection h with h; injection h, fun h => by rw [h]⟩
    have fd : Str.ofString "\n" = ⟨#[10]⟩ := by decide +kernel
    have bl : Str.ofString " " = ⟨#[32]⟩ := by decide +kernel
    unfold kn at q
    walk_at "rd"
    refine r_ite (fun h => ?_) (fun h => ?_)
    · have h := V.str.inj h
      rw [fd, tlS] at h
      walk_at "rd"
      rw [if_pos h] at q
      exact q
    · have h1 : ¬ c = 10 := fun z => h (by rw [fd, z])
      rw [if_neg h1] at q
      walk_at "rd"
      refine r_ite (fun h => ?_) (fun h => ?_)
      · have h := V.str.inj h
        rw [bl, tlS] at h
        walk_at "rd"
        rw [if_pos h] at q
        exact q
      · have h2 : ¬ c = 32 := fun z => h (by rw [bl, z])
        rw [if_neg h2] at q
        walk_at "rd"
        refine r_inS ?_
        walk_at "rd"
        refine r_ite (fun h => ?_) (fun h => ?_)
        · have h : c ∈ DG.cps.toList := h
          walk_at "rd"
          rw [if_pos h] at q
          exact q
        · have h : ¬ c ∈ DG.cps.toList := h
          rw [if_neg h] at q
          walk_at "rd"
          refine r_inS ?_
          walk_at "rd"
          refine r_ite (fun h => ?_) (fun h => ?_)
          · have h : c ∈ LT.cps.toList := h
            walk_at "rd"
            rw [if_pos h] at q
            exact q
          · have h : ¬ c ∈ LT.cps.toList := h
            walk_at "rd"
            rw [if_neg h] at q
            exact q
theorem ok_law_kind (T : Txt K mg) : FnOk P w K mg base CX0 2 T.a_law_kind T.d_law_kind ["_law_sign"] spKind := by
  refine T.F_law_kind.ok sc_law_kind (fun vs H Q E h => ?_) (fun cdv A outer s H vs Q E hr h => ?_)
  · obtain ⟨c, rfl, _⟩ := h
    rfl
  · obtain ⟨c, rfl, q⟩ := h
    refine ⟨_, (pss_cons (ps_if (pt_cmpR (op_eqU hr.units) (pv 0) pe_str (nomark _)) (pss_one (ps_ret pe_str)) pss_nil)
        (pss_cons (ps_if (pt_cmpR (op_eqU hr.units) (pv 0) pe_str (nomark _)) (pss_one (ps_ret pe_str)) pss_nil)
        (pss_cons (ps_if (pt_cmpR op_inU (pv 0) pe_str (by rfl)) (pss_one (ps_ret pe_str)) pss_nil)
        (pss_cons (ps_if (PW.pt (pw_or (pt_cmpR op_inU (pv 0) (pe_call0 (ok_law_small T) hr (by rfl) T.g_law_small T.F_law_small.kp T.b_law_small .nil pass0) (by rfl)) (pw_or1 (pt_cmpR op_inU (pv 0) pe_str (by rfl))))) (pss_one (ps_ret pe_str)) pss_nil)
        (pss_one (ps_ret pe_str)))))), ?_⟩
    have tlS : ∀ {d : Nat}, ((⟨#[c]⟩ : Str) = ⟨#[d]⟩) ↔ c = d := fun {d} => ⟨fun h => by injection h with h; injection h with h; injection h, fun h => by rw [h]⟩
    have fd : Str.ofString "\n" = ⟨#[10]⟩ := by decide +kernel
    have bl : Str.ofString " " = ⟨#[32]⟩ := by decide +kernel
    unfold kn at q
    walk_at "rd"
    refine r_ite (fun h => ?_) (fun h => ?_)
    · have h := V.str.inj h
      rw [fd, tlS] at h
      walk_at "rd"
      rw [if_pos h] at q
      exact q
    · have h1 : ¬ c = 10 := fun z => h (by rw [fd, z])
      rw [if_neg h1] at q
      walk_at "rd"
      refine r_ite (fun h => ?_) (fun h => ?_)
      · have h := V.str.inj h
        rw [bl, tlS] at h
        walk_at "rd"
        rw [if_pos h] at q
        exact q
      · have h2 : ¬ c = 32 := fun z => h (by rw [bl, z])
        rw [if_neg h2] at q
        walk_at "rd"
        refine r_inS ?_
        walk_at "rd"
        refine r_ite (fun h => ?_) (fun h => ?_)
        · have h : c ∈ DG.cps.toList := h
          walk_at "rd"
          rw [if_pos h] at q
          exact q
        · have h : ¬ c ∈ DG.cps.toList := h
          rw [if_neg h] at q
          walk_at "rd"
          refine ⟨rfl, ?_⟩
          refine r_inS ?_
          walk_at "rd"
          have lt : (c ∈ LT.cps.toList) ↔ c ∈ SM.cps.toList ∨ c ∈ CP.cps.toList := by
            rw [lt_cat, List.mem_append]
            exact Or.comm
          by_cases g1 : c ∈ SM.cps.toList
          · rw [if_pos (decide_eq_true g1), if_pos rfl]
            walk_at "rd"
            rw [if_pos (lt.mpr (.inl g1))] at q
            exact q
          · rw [if_neg (by simpa using g1)]
            walk_at "rd"
            refine r_inS ?_
            walk_at "rd"
            by_cases g2 : c ∈ CP.cps.toList
            · refine r_ite (fun _ => ?_) (fun z => absurd g2 z)
              walk_at "rd"
              rw [if_pos (lt.mpr (.inr g2))] at q
              exact q
            · refine r_ite (fun z => absurd z g2) (fun _ => ?_)
              walk_at "rd"
              rw [if_neg (fun z => (lt.mp z).elim g1 g2)] at q
              exact q
theorem ok_law_alphabet (T : Txt K mg) : FnOk P w K mg base CX0 3 T.a_law_alphabet T.d_law_alphabet ["_law_state"] spAlpha := by
  refine T.F_law_alphabet.ok sc_law_alphabet (fun vs H Q E h => ?_) (fun cdv A outer s H vs Q E hr h => ?_)
  · obtain ⟨a, rfl, _⟩ := h
    rfl
  · obtain ⟨a, rfl, hs, q⟩ := h
    refine ⟨_, (pss_cons (ps_set (i := 1) sc_law_alphabet.nd rfl (Or.inl rfl) (pe_call0 (ok_law_signs T) hr (by rfl) T.g_law_signs T.F_law_signs.kp T.b_law_signs .nil pass0))
        (pss_cons (ps_if (PW.pt (pw_or (pt_not (pt_val (pe_callB call_isi (by rfl) T.n_isinstance (by decide +kernel) (pa_cons (pe_glob (v := .str "\n !\"#$&'()*+,-./0123456789:;<=>?@ABCDEFGHIJKLMNOPQRSTUVWXYZ[\\]^_`abcdefghijklmnopqrstuvwxyz{|}~") rfl T.g_ALPHABET ⟨_, rfl⟩) (pa_cons (pe_bltn (v := .ty "str") (by rfl) T.n_str (by decide +kernel) rfl) pa_nil))))) (pw_or1 (pt_cmpR (op_neU hr.units) (pe_glob (v := .str "\n !\"#$&'()*+,-./0123456789:;<=>?@ABCDEFGHIJKLMNOPQRSTUVWXYZ[\\]^_`abcdefghijklmnopqrstuvwxyz{|}~") rfl T.g_ALPHABET ⟨_, rfl⟩) (pv 1) (nomark _))))) (pss_one (ps_ret pe_bl)) pss_nil)
        (pss_cons (ps_for PassesOwn.never rfl (pi_range1 (by rfl) T.n_range (pa_cons pe_int pa_nil)) (pg_name (i := 2) sc_law_alphabet.nd rfl (Or.inl rfl)) (pss_cons (ps_set (i := 3) sc_law_alphabet.nd rfl (Or.inl rfl) (pe_call (ok_law_draw T) (hr.mono (by decide)) (by rfl) T.g_law_draw T.F_law_draw.kp T.b_law_draw .nil pass0 (pa_cons (pv 0) (pa_cons pe_int pa_nil))))
        (pss_cons (ps_set (i := 4) sc_law_alphabet.nd rfl (Or.inl rfl) (pe_ix ix_seq (pv 1) (pv 3) (fun _ _ => rfl)))
        (pss_one (ps_if (PW.pt (pw_or (pt_not (pt_val (pe_call (ok_law_is T) (hr.mono (by decide)) (by rfl) T.g_law_is T.F_law_is.kp T.b_law_is .nil pass0 (pa_cons (pv 3) (pa_cons (pe_call (ok_code_of T) (hr.mono (by decide)) (by rfl) T.g_code_of T.F_code_of.kp T.b_code_of .nil pass0 (pa_cons (pv 4) pa_nil)) pa_nil))))) (pw_or (pt_cmpR (op_neU hr.units) (pe_call (ok_sign_of T) (hr.mono (by decide)) (by rfl) T.g_sign_of T.F_sign_of.kp T.b_sign_of .nil pass0 (pa_cons (pv 3) pa_nil)) (pv 4) (nomark _)) (pw_or1 (pt_cmpR (op_neU hr.units) (pe_call (ok_kind_of T) (hr.mono (by decide)) (by rfl) T.g_kind_of T.F_kind_of.kp T.b_kind_of .nil pass0 (pa_cons (pv 4) pa_nil)) (pe_call (ok_law_kind T) hr (by rfl) T.g_law_kind T.F_law_kind.kp T.b_law_kind .nil pass0 (pa_cons (pv 4) pa_nil)) (nomark _)))))) (pss_one (ps_ret pe_bl)) pss_nil)))))
        (pss_one (ps_ret (pe_and (pe_cmpR (op_eqU hr.units) (pe_call (ok_kind_of T) (hr.mono (by decide)) (by rfl) T.g_kind_of T.F_kind_of.kp T.b_kind_of .nil pass0 (pa_cons pe_str pa_nil)) pe_str (nomark _)) (pe_and (pe_call (ok_law_is T) (hr.mono (by decide)) (by rfl) T.g_law_is T.F_law_is.kp T.b_law_is .nil pass0 (pa_cons pe_int (pa_cons (pe_call (ok_code_of T) (hr.mono (by decide)) (by rfl) T.g_code_of T.F_code_of.kp T.b_code_of .nil pass0 (pa_cons pe_str pa_nil)) pa_nil))) (pe_one (pe_call (ok_law_is T) (hr.mono (by decide)) (by rfl) T.g_law_is T.F_law_is.kp T.b_law_is .nil pass0 (pa_cons pe_int (pa_cons (pe_call (ok_code_of T) (hr.mono (by decide)) (by rfl) T.g_code_of T.F_code_of.kp T.b_code_of .nil pass0 (pa_cons pe_str pa_nil)) pa_nil))))))))))), ?_⟩
    walk_at "rd"
    refine ⟨rfl, ?_⟩
    walk_at "rd"
    refine r_isi (b := true) (.base (.str _)) (by decide +kernel) ?_
    walk_at "rd"
    refine l_R (by decide) (by decide) (fun i σ H' => ∃ y1 y2 y3, σ = [some (.ref a), some (.str AL), y1, y2, y3] ∧ Drw (cell a) H H') ⟨none, none, none, rfl, .refl hs⟩ (fun i σ H' hi hP => ?_) (fun σ H' hP => ?_)
    · obtain ⟨y1, y2, y3, rfl, D⟩ := hP
      walk_at "rd"
      refine ⟨a, 95, rfl, D.st, by decide, fun d H3 d1 D3 => ?_⟩
      obtain ⟨c, hc, hcA, ha⟩ := al_sign (d := d) (by omega)
      walk_at "rd"
      refine r_ixS (by rw [AL_len]; decide) ha ?_
      walk_at "rd"
      refine ⟨d, c, rfl, hc, ?_⟩
      walk_at "rd"
      refine ⟨_, rfl, ?_⟩
      walk_at "rd"
      refine ⟨d, c, rfl, hc, ?_⟩
      walk_at "rd"
      refine r_iteN (fun h => absurd rfl h) (fun _ => ?_)
      walk_at "rd"
      refine ⟨c, rfl, ?_⟩
      walk_at "rd"
      refine ⟨c, rfl, ?_⟩
      walk_at "rd"
      refine r_iteN (fun h => absurd rfl h) (fun _ => ?_)
      walk_at "rd"
      exact ⟨_, _, _, rfl, D.trans D3⟩
    · obtain ⟨y1, y2, y3, rfl, D⟩ := hP
      walk_at "rd"
      refine ⟨95, rfl, ?_⟩
      walk_at "rd"
      refine ⟨0, 10, congrArg (fun z => [V.str z]) (by decide +kernel : Str.ofString "\n" = ⟨#[10]⟩), by decide +kernel, ?_⟩
      walk_at "rd"
      refine ⟨_, rfl, ?_⟩
      walk_at "rd"
      refine ⟨94, 126, congrArg (fun z => [V.str z]) (by decide +kernel : Str.ofString "~" = ⟨#[126]⟩), by decide +kernel, ?_⟩
      walk_at "rd"
      refine ⟨_, rfl, ?_⟩
      walk_at "rd"
      exact q H' D
end
end K17

namespace K17
open PySem PySem.Spec PyProof.Rows L2 Dk Q48
/-- one step of a reading -/
local macro_rules | `(tactic| walk_at "rd1") => `(tactic| first
  | ((with_reducible refine r_var (v := ?rv) ?rh ?_); (case rh => rfl))
  | with_reducible refine r_c ?_
  | with_reducible refine r_seq ?_
  | with_reducible refine r_asg ?_
  | with_reducible refine r_par ?_
  | with_reducible refine r_gname ?_
  | with_reducible refine r_op ?_
  | with_reducible refine r_forLo ?_
  | with_reducible refine r_forTo ?_
  | with_reducible refine r_forSo ?_
  | with_reducible refine r_forRo ?_
  | with_reducible refine r_forRvo ?_
  | with_reducible refine r_forZo ?_
  | with_reducible refine r_revS ?_
  | with_reducible refine r_lcRo ?_
  | with_reducible refine r_lcLo ?_
  | with_reducible refine r_yes ?_
  | with_reducible refine r_callK0 ?_
  | with_reducible refine r_break ?_
  | with_reducible refine r_continue ?_
  | with_reducible refine r_forR2o ?_
  | with_reducible refine r_forEo ?_
  | with_reducible refine r_forESo ?_
  | with_reducible refine r_xfo ?_
  | with_reducible refine r_noP ?_
  | with_reducible refine r_part ?_
  | with_reducible refine r_pI ?_
  | with_reducible refine r_gcons ?_
  | with_reducible refine r_gnil ?_
  | with_reducible refine r_mkO ?_
  | with_reducible refine r_un ?_
  | with_reducible refine r_addI ?_
  | with_reducible refine r_I0 ?_
  | with_reducible refine r_U ?_
  | with_reducible refine r_cons ?_
  | with_reducible refine r_nil ?_
  | with_reducible refine r_CB ?_
  | with_reducible refine r_call ?_
  | with_reducible refine r_callS ?_
  | with_reducible refine r_int ?_
  | with_reducible refine r_max ?_
  | with_reducible refine r_min ?_
  | with_reducible refine r_test ?_
  | with_reducible refine r_B ?_
  | with_reducible refine r_blv ?_
  | with_reducible refine r_and ?_
  | with_reducible refine r_or ?_
  | with_reducible refine r_not ?_
  | with_reducible refine r_andV ?_
  | with_reducible refine r_orV ?_
  | with_reducible refine r_notV ?_
  | with_reducible refine r_ifE ?_
  | with_reducible refine r_ifS ?_
  | with_reducible refine r_ret ?_
  | with_reducible refine r_retN ?_
  | with_reducible refine r_drop ?_
  | with_reducible refine r_next ?_
  | with_reducible refine r_sl ?_
  | with_reducible refine r_gsub ?_
  | with_reducible refine r_bm ?_
  | with_reducible refine r_bm0 ?_
  | with_reducible refine r_tup ?_
  | with_reducible refine r_lst ?_
  | with_reducible refine r_isN ?_
  | with_reducible refine r_notN ?_
  | with_reducible refine r_chain ?_
  | with_reducible refine r_callK ?_
  | with_reducible refine r_isB ?_
  | with_reducible refine r_lcEio ?_
  | with_reducible refine r_forEi ?_
  | with_reducible refine r_lcTo ?_
  | with_reducible refine r_lcSo ?_
  | with_reducible refine r_m1 ?_
  | with_reducible refine r_dget ?_
  | with_reducible refine r_din ?_
  | with_reducible refine r_dnotin ?_
  | with_reducible refine r_starC ?_
  | with_reducible refine r_callKS ?_
  | with_reducible refine r_itt ?_
  | with_reducible refine r_iff ?_
  | with_reducible refine r_ittN ?_
  | with_reducible refine r_iffN ?_
  | ((with_reducible refine r_ittD ?rh ?_); (case rh => rfl))
  | ((with_reducible refine r_iffD ?rh ?_); (case rh => rfl))
  | ((with_reducible refine r_modP ?rh ?_); (case rh => decide))
  | ((with_reducible refine r_eq ?rh ?_); (case rh => rfl))
  | ((with_reducible refine r_eqP ?rh ?_); (case rh => rfl))
  | ((with_reducible refine r_ne ?rh ?_); (case rh => rfl)))
local macro_rules | `(tactic| walk_at "rd") => `(tactic| repeat walk_at "rd1")
local macro_rules | `(tactic| walk_at "isi") => `(tactic| first | refine r_isi (b := true) (by assumption) (by decide +kernel) ?_ | refine r_isi (b := false) (by assumption) (by decide +kernel) ?_)
local macro_rules | `(tactic| walk_at "rs1") => `(tactic| first
  | with_reducible refine r_seq ?_
  | with_reducible refine r_asg ?_
  | with_reducible refine r_gname ?_
  | with_reducible refine r_ret ?_)
local macro_rules | `(tactic| walk_at "rs") => `(tactic| repeat walk_at "rs1")

/-! ### things of any kind -/
inductive Od (H : Hp) : V → Prop
  | non : Od H .non
  | bl (b : Bool) : Od H (.bl b)
  | int (i : Int) : Od H (.int i)
  | tup {p : Addr} {xs : List V} (h : H p = some (.tup xs)) : Od H (.ref p)
  | lst {p : Addr} {xs : List V} (h : H p = some (.lst xs)) : Od H (.ref p)
  | dct {p : Addr} {xs : List (Key × V)} (h : H p = some (.dK xs)) : Od H (.ref p)
theorem Od.up {H H' : Hp} {v : V} (h : Od H v) (e : Ex H H') : Od H' v := by
  cases h with
  | non => exact .non
  | bl b => exact .bl b
  | int i => exact .int i
  | tup h => exact .tup (e _ _ h)
  | lst h => exact .lst (e _ _ h)
  | dct h => exact .dct (e _ _ h)
theorem Od.ty {K : PySem.W.Frag} {H : Hp} {v : V} (h : Od H v) : ∃ t, TyX K H v (.type t) ∧ kitB t "str" = some false := by
  cases h with
  | non => exact ⟨_, .base .non, by decide +kernel⟩
  | bl b => exact ⟨_, .base (.bl b), by decide +kernel⟩
  | int i => exact ⟨_, .base (.int i), by decide +kernel⟩
  | tup h => exact ⟨_, .base (.tup h), by decide +kernel⟩
  | lst h => exact ⟨_, .base (.lst h), by decide +kernel⟩
  | dct h => exact ⟨_, .base (.dK h), by decide +kernel⟩
def Th (H : Hp) (v : V) : Option Str → Prop
  | some z => v = .str z ∧ z.length ≤ 6000
  | none => Od H v
theorem Th.up {H H' : Hp} {v : V} {o : Option Str} (h : Th H v o) (e : Ex H H') : Th H' v o := by
  cases o with
  | some z => exact h
  | none => exact Od.up h e
theorem r_isTh {K : PySem.W.Frag} {H : Hp} {Q : VK} {v : V} {o : Option Str} (h : Th H v o) (q : Q (.bl o.isSome) H) : rIsi K [v, .ty "str"] H Q := by
  cases o with
  | some z =>
    obtain ⟨rfl, _⟩ := h
    exact r_isi (b := true) (.base (.str z)) (by decide +kernel) q
  | none =>
    obtain ⟨t, h1, h2⟩ := Od.ty (K := K) h
    exact r_isi (b := false) h1 h2 q
/-- the first sign that is none -/
def wr (z : Str) : Option Nat := (cs z).findIdx? fun c => !decide (c ∈ AL.cps.toList)
theorem wr_none {z : Str} (h : ∀ c ∈ cs z, c ∈ AL.cps.toList) : wr z = none := by
  unfold wr
  rw [List.findIdx?_eq_none_iff]
  intro c hc
  simpa using h c hc
theorem wr_some {z : Str} {k c : Nat} (h : (cs z)[k]? = some c) (hc : c ∉ AL.cps.toList) (hl : ∀ d ∈ (cs z).take k, d ∈ AL.cps.toList) : wr z = some k := by
  unfold wr
  obtain ⟨hk, rfl⟩ := List.getElem?_eq_some_iff.mp h
  rw [List.findIdx?_eq_some_iff_getElem]
  refine ⟨hk, by simpa using hc, fun j hj => ?_⟩
  have := hl _ (List.mem_take_iff_getElem.mpr ⟨j, by omega, rfl⟩)
  simpa using this
def wt : Option Str → Option Int
  | none => some (-1)
  | some z => match wr z with
    | none => none
    | some k => some (k : Int)
theorem wt_none {z : Str} (h : wr z = none) : wt (some z) = none := by
  show (match wr z with | none => none | some k => some (k : Int)) = none
  rw [h]
theorem wt_some {z : Str} {k : Nat} (h : wr z = some k) : wt (some z) = some (k : Int) := by
  show (match wr z with | none => none | some k => some (k : Int)) = _
  rw [h]
def ovI : Option Int → V
  | none => .non
  | some i => .int i
theorem ovI_non {r : Option Int} : decide (ovI r = .non) = r.isNone := by
  cases r with
  | none => rfl
  | some i => exact decide_eq_false (fun h => nomatch h)
def okN (c : Nat) : Bool := decide (c ∈ SM.cps.toList) || decide (c ∈ DG.cps.toList)
def nmB (z : Str) : Bool := (decide (1 ≤ z.length) && decide (z.length ≤ 12)) && (((cs z).head?.any fun c => decide (c ∈ SM.cps.toList)) && (cs z).all okN)
theorem nm_at {z : Str} {c : Nat} (h1 : 1 ≤ z.length) (h2 : z.length ≤ 12) (hc : (cs z)[0]? = some c) : nmB z = (decide (c ∈ SM.cps.toList) && (cs z).all okN) := by
  unfold nmB
  rw [decide_eq_true h1, decide_eq_true h2, List.head?_eq_getElem?, hc]
  rfl
theorem nm_off {z : Str} (h : ¬ (1 ≤ z.length ∧ z.length ≤ 12)) : nmB z = false := by
  unfold nmB
  rw [← Bool.decide_and, decide_eq_false h]
  rfl
def nmO : Option Str → Bool
  | none => false
  | some z => nmB z
def lnO : Option Str → Nat
  | none => 3
  | some z => z.length
abbrev xAt (k : Int) : HO := .xd [(("at" : Str), V.int k)]
abbrev xMuch : HO := .xd [(("what" : Str), V.str "text")]
def spFirst : Sp := fun vs H Q _ => ∃ z : Str, vs = [.str z] ∧ z.length ≤ 6000 ∧ ∀ H', Ex H H' → Q (ovI (wt (some z))) H'
def spFW : Sp := fun vs H Q _ => ∃ (v : V) (o : Option Str), vs = [v] ∧ Th H v o ∧ ∀ H', Ex H H' → Q (ovI (wt o)) H'
def spIsText : Sp := fun vs H Q _ => ∃ (v : V) (o : Option Str), vs = [v] ∧ Th H v o ∧ ∀ H', Ex H H' → Q (.bl (wt o).isNone) H'
def spName : Sp := fun vs H Q _ => ∃ (v : V) (o : Option Str), vs = [v] ∧ Th H v o ∧ ∀ H', Ex H H' → Q (.bl (nmO o)) H'
def spCheck (BT TM : Addr) : Sp := fun vs H Q E => ∃ (v : V) (o : Option Str) (m : Nat), vs = [v, .int (m : Nat)] ∧ Th H v o ∧
  (∀ i, wt o = some i → ∀ H' d, Ex H H' → H d = none → H' d = some (xAt i) → E (.ref BT) (some d) H') ∧
  (wt o = none → lnO o ≤ m → ∀ H', Ex H H' → Q .non H') ∧ (wt o = none → m < lnO o → ∀ H' d, Ex H H' → H d = none → H' d = some xMuch → E (.ref TM) (some d) H')
section
variable {P : Program} {w : World} {K : PySem.W.Frag} {mg : Str → Option Value} {base : Heap}
theorem ok_first_strange (T : Txt K mg) : FnOk P w K mg base CX0 1 T.a_first_strange T.d_first_strange ["text"] spFirst := by
  refine T.F_first_strange.ok sc_first_strange (fun vs H Q E h => ?_) (fun cdv A outer s H vs Q E hr h => ?_)
  · obtain ⟨z, rfl, _⟩ := h
    rfl
  · obtain ⟨z, rfl, hz, q⟩ := h
    refine ⟨_, (pss_cons (ps_for PassesOwn.never rfl (pi_enumS (by rfl) T.n_enumerate (pa_cons (pv 0) pa_nil)) (pg_tup rfl (pgs_cons (pg_name (i := 1) sc_first_strange.nd rfl (Or.inl rfl)) (pgs_cons (pg_name (i := 2) sc_first_strange.nd rfl (Or.inl rfl)) pgs_nil))) (pss_one (ps_if (pt_cmpR op_notInU (pv 2) (pe_glob (v := .str "\n !\"#$&'()*+,-./0123456789:;<=>?@ABCDEFGHIJKLMNOPQRSTUVWXYZ[\\]^_`abcdefghijklmnopqrstuvwxyz{|}~") rfl T.g_ALPHABET ⟨_, rfl⟩) (by rfl)) (pss_one (ps_ret (pv 1))) pss_nil)))
        (pss_one (ps_ret pe_non))), ?_⟩
    walk_at "rd"
    refine ⟨z, rfl, fun i m σ H' => ∃ y1 y2, σ = [some (.str z), y1, y2] ∧ Ex H H' ∧ i + m = z.cps.size ∧ ∀ c ∈ z.cps.toList.take i, c ∈ AL.cps.toList, ⟨z.cps.size, none, none, rfl, Same.refl H, by omega, fun c hc => by simp at hc⟩, fun i m σ H' hW => ?_⟩
    obtain ⟨y1, y2, rfl, e, em, ha⟩ := hW
    by_cases hi : i < z.cps.size
    · refine .inr ⟨⟨trivial, hi⟩, fun σ' H2 => ∃ y1 y2, σ' = [some (.str z), y1, y2] ∧ Ex H H2 ∧ ∀ c ∈ z.cps.toList.take (i + 1), c ∈ AL.cps.toList, fun σ' H2 hN => ?_, fun x H2 hy => ?_⟩
      · obtain ⟨y1, y2, h1, h2, h3⟩ := hN
        exact ⟨m - 1, by omega, y1, y2, h1, h2, by omega, h3⟩
      · obtain ⟨p, x', rfl, hp, rfl, c, hc, rfl⟩ := hy
        have e2 : Ex H (upd H' p (.tup [.int (i : Nat), .str ⟨#[c]⟩])) := e.trans (Gr.new (A := A0) (Same.refl H') hp).same
        have hcz : z.cps.toList[i]? = some c := by rw [Array.getElem?_toList]; exact hc
        refine r_gtup (sqT upd_same) rfl ?_
        walk_at "rd"
        refine r_niS ?_
        walk_at "rd"
        refine r_iteN (fun hn => ?_) (fun hm => ?_)
        · walk_at "rd"
          have := q _ e2
          rw [show wt (some z) = some ((i : Nat) : Int) from wt_some (wr_some hcz hn ha)] at this
          exact this
        · walk_at "rd"
          refine ⟨_, _, rfl, e2, fun d hd => ?_⟩
          rw [List.take_add_one, hcz] at hd
          rcases List.mem_append.mp hd with h | h
          · exact ha d h
          · have z' : d = c := by simpa using h
            rw [z']
            exact hm
    · refine .inl ⟨⟨trivial, by omega⟩, ?_⟩
      walk_at "rd"
      have := q _ e
      rw [wt_none (wr_none fun d hd => ha d (by rw [List.take_of_length_le (by rw [Array.length_toList]; omega)]; exact hd))] at this
      exact this
theorem ok_is_text (T : Txt K mg) : FnOk P w K mg base CX0 2 T.a_is_text T.d_is_text ["thing"] spIsText := by
  refine T.F_is_text.ok sc_is_text (fun vs H Q E h => ?_) (fun cdv A outer s H vs Q E hr h => ?_)
  · obtain ⟨v, o, rfl, _⟩ := h
    rfl
  · obtain ⟨v, o, rfl, hv, q⟩ := h
    refine ⟨_, (pss_one (ps_ret (pe_and (pe_callB call_isi (by rfl) T.n_isinstance (by decide +kernel) (pa_cons (pv 0) (pa_cons (pe_bltn (v := .ty "str") (by rfl) T.n_str (by decide +kernel) rfl) pa_nil))) (pe_one (pe_cmpR op_isU (pe_call (ok_first_strange T) hr (by rfl) T.g_first_strange T.F_first_strange.kp T.b_first_strange .nil pass0 (pa_cons (pv 0) pa_nil)) pe_non (nomark _)))))), ?_⟩
    walk_at "rd"
    refine r_isTh hv ?_
    cases o with
    | none =>
      walk_at "rd"
      exact q H (Same.refl H)
    | some z =>
      obtain ⟨rfl, hz⟩ := hv
      walk_at "rd"
      refine ⟨z, rfl, hz, fun H1 e1 => ?_⟩
      walk_at "rd"
      rw [ovI_non]
      exact q H1 e1
theorem ok_init_BadText (T : Txt K mg) : FnOk P w K mg base CX0 1 T.ai_BadText T.d_BadText ["self", "at"] (spInit1 T.c_BadText "at") := by
  refine T.F_BadText.ok sc_init_BadText (fun vs H Q E h => ?_) (fun cdv A outer s H vs Q E hr h => ?_)
  · obtain ⟨a, v, rfl, _⟩ := h
    rfl
  · obtain ⟨a, v, rfl, ha, q⟩ := h
    refine ⟨_, pss_one (ps_ost (pv 0) (pv 1)), ?_⟩
    exact ⟨v, rfl, .ref a, rfl, a, T.c_BadText, rfl, T.o_BadText, T.na_BadText_at, .inl ⟨ha, fun dx n1 n2 => q dx n1 n2⟩⟩
theorem ok_init_BadPlace (T : Txt K mg) : FnOk P w K mg base CX0 1 T.ai_BadPlace T.d_BadPlace ["self", "at"] (spInit1 T.c_BadPlace "at") := by
  refine T.F_BadPlace.ok sc_init_BadPlace (fun vs H Q E h => ?_) (fun cdv A outer s H vs Q E hr h => ?_)
  · obtain ⟨a, v, rfl, _⟩ := h
    rfl
  · obtain ⟨a, v, rfl, ha, q⟩ := h
    refine ⟨_, pss_one (ps_ost (pv 0) (pv 1)), ?_⟩
    exact ⟨v, rfl, .ref a, rfl, a, T.c_BadPlace, rfl, T.o_BadPlace, T.na_BadPlace_at, .inl ⟨ha, fun dx n1 n2 => q dx n1 n2⟩⟩
theorem ok_init_TooMuch (T : Txt K mg) : FnOk P w K mg base CX0 1 T.ai_TooMuch T.d_TooMuch ["self", "what"] (spInit1 T.c_TooMuch "what") := by
  refine T.F_TooMuch.ok sc_init_TooMuch (fun vs H Q E h => ?_) (fun cdv A outer s H vs Q E hr h => ?_)
  · obtain ⟨a, v, rfl, _⟩ := h
    rfl
  · obtain ⟨a, v, rfl, ha, q⟩ := h
    refine ⟨_, pss_one (ps_ost (pv 0) (pv 1)), ?_⟩
    exact ⟨v, rfl, .ref a, rfl, a, T.c_TooMuch, rfl, T.o_TooMuch, T.na_TooMuch_what, .inl ⟨ha, fun dx n1 n2 => q dx n1 n2⟩⟩
theorem ok_check_text (T : Txt K mg) : FnOk P w K mg base (L2.CX P w) 3 T.a_check_text T.d_check_text ["thing", "most"] (spCheck T.c_BadText T.c_TooMuch) := by
  refine T.F_check_text.okX sc_check_text (fun vs H Q E h => ?_) (fun cdv A outer s H vs Q E hr h => ?_)
  · obtain ⟨v, o, m, rfl, _⟩ := h
    rfl
  · obtain ⟨v, o, m, rfl, hv, q1, q2, q3⟩ := h
    refine ⟨_, (pss_cons (ps_if (pt_not (pt_val (pe_callB call_isi (by rfl) T.n_isinstance (by decide +kernel) (pa_cons (pv 0) (pa_cons (pe_bltn (v := .ty "str") (by rfl) T.n_str (by decide +kernel) rfl) pa_nil))))) (pss_one (ps_raise rfl (takes_of rfl rfl rfl rfl) (pmk_oex T.o_BadText T.i_BadText T.ti_BadText (ok_init_BadText T) hr T.b_BadText .nil pass0 (by rfl) T.g_BadText (pa_cons (pe_un un_neg pe_int) pa_nil)))) pss_nil)
        (pss_cons (ps_set (i := 2) sc_check_text.nd rfl (Or.inl rfl) (pe_call (ok_first_strange T) (hr.mono (by decide)) (by rfl) T.g_first_strange T.F_first_strange.kp T.b_first_strange .nil pass0 (pa_cons (pv 0) pa_nil)))
        (pss_cons (ps_if (pt_cmpR op_isnotU (pv 2) pe_non (nomark _)) (pss_one (ps_raise rfl (takes_of rfl rfl rfl rfl) (pmk_oex T.o_BadText T.i_BadText T.ti_BadText (ok_init_BadText T) hr T.b_BadText .nil pass0 (by rfl) T.g_BadText (pa_cons (pv 2) pa_nil)))) pss_nil)
        (pss_one (ps_if (pt_cmpR op_gt (pe_callB call_lenU (by rfl) T.n_len (by decide +kernel) (pa_cons (pv 0) pa_nil)) (pv 1) (nomark _)) (pss_one (ps_raise rfl (takes_of rfl rfl rfl rfl) (pmk_oex T.o_TooMuch T.i_TooMuch T.ti_TooMuch (ok_init_TooMuch T) hr T.b_TooMuch .nil pass0 (by rfl) T.g_TooMuch (pa_cons pe_str pa_nil)))) pss_nil))))), ?_⟩
    walk_at "rd"
    refine r_isTh hv ?_
    cases o with
    | none =>
      walk_at "rd"
      exact r_raise1 fun d hd => q1 (-1) rfl _ d (Same.new (Same.refl _) hd) hd upd_same
    | some z =>
      obtain ⟨rfl, hz⟩ := hv
      have zl : z.length ≤ sizeLine := by rw [sizeLine_eq]; omega
      walk_at "rd"
      refine ⟨z, rfl, hz, fun H1 e1 => ?_⟩
      walk_at "rd"
      cases e : wt (some z) with
      | some i =>
        refine r_iteN (fun _ => ?_) (fun h => absurd h (fun h => nomatch h))
        walk_at "rd"
        exact r_raise1 fun d hd => q1 i e _ d (e1.trans (Same.new (Same.refl _) hd)) (e1.free hd) upd_same
      | none =>
        refine r_iteN (fun h => absurd rfl h) (fun _ => ?_)
        walk_at "rd"
        refine r_lenS zl ?_
        walk_at "rd"
        refine r_ite (fun c => ?_) (fun c => ?_)
        · walk_at "rd"
          exact r_raise1 fun d hd => q3 e (by show m < z.length; omega) _ d (e1.trans (Same.new (Same.refl _) hd)) (e1.free hd) upd_same
        · walk_at "rd"
          exact q2 e (by show z.length ≤ m; omega) H1 e1
theorem ok_is_name (T : Txt K mg) : FnOk P w K mg base CX0 1 T.a_is_name T.d_is_name ["thing"] spName := by
  refine T.F_is_name.ok sc_is_name (fun vs H Q E h => ?_) (fun cdv A outer s H vs Q E hr h => ?_)
  · obtain ⟨v, o, rfl, _⟩ := h
    rfl
  · obtain ⟨v, o, rfl, hv, q⟩ := h
    refine ⟨_, (pss_cons (ps_if (PW.pt (pw_or (pt_not (pt_val (pe_callB call_isi (by rfl) T.n_isinstance (by decide +kernel) (pa_cons (pv 0) (pa_cons (pe_bltn (v := .ty "str") (by rfl) T.n_str (by decide +kernel) rfl) pa_nil))))) (pw_or1 (pt_not (pt_chain op_le op_le pe_int (pe_callB call_lenU (by rfl) T.n_len (by decide +kernel) (pa_cons (pv 0) pa_nil)) (pe_glob (v := .int 12) rfl T.g_LONGEST_NAME ⟨_, rfl⟩)))))) (pss_one (ps_ret pe_bl)) pss_nil)
        (pss_cons (ps_if (pt_cmpR op_notInU (pe_ix ix_seq (pv 0) pe_int (fun _ _ => rfl)) (pe_glob (v := .str "abcdefghijklmnopqrstuvwxyz") rfl T.g_SMALL_LETTERS ⟨_, rfl⟩) (by rfl)) (pss_one (ps_ret pe_bl)) pss_nil)
        (pss_one (ps_ret (pe_callB (cr_all rfl) (by rfl) T.n_all (by decide +kernel) (pa_cons (pe_lc (own := [("sign", 1)]) (g := gName 1) rfl sc_is_name.nd (pi_str (pv 0)) (blkOk_by (N := N_is_name) (sc := defScope s_is_name) (by decide +kernel)) (fun _ _ _ _ _ => pg_name (i := 1) sc_is_name.nd rfl (Or.inl rfl)) (fun _ _ _ _ _ => pts_nil) (fun _ _ _ _ _ => (pe_or (pe_cmpR (k_in (K := K) rfl) (pv 1) (pe_glob (v := .str "abcdefghijklmnopqrstuvwxyz") rfl T.g_SMALL_LETTERS ⟨_, rfl⟩) (by rfl)) (pe_one (pe_cmpR (k_in (K := K) rfl) (pv 1) (pe_glob (v := .str "0123456789") rfl T.g_DIGITS ⟨_, rfl⟩) (by rfl)))))) pa_nil)))))), ?_⟩
    walk_at "rd"
    refine r_isTh hv ?_
    cases o with
    | none =>
      walk_at "rd"
      exact q H (Same.refl H)
    | some z =>
      obtain ⟨rfl, hz⟩ := hv
      have zl : z.length ≤ sizeLine := by rw [sizeLine_eq]; omega
      walk_at "rd"
      refine r_lenS zl ?_
      walk_at "rd"
      have no : nmB z = false → Q (.bl false) H := fun e => by
        have := q H (Same.refl H)
        rw [show nmO (some z) = false from e] at this
        exact this
      refine r_ite (fun h1 => ?_) (fun h1 => ?_)
      · walk_at "rd"
        refine r_iteN (fun h2 => ?_) (fun h2 => ?_)
        · walk_at "rd"
          exact no (nm_off (by omega))
        · walk_at "rd"
          have l0 : 0 < (cs z).length := by rw [cs_len]; omega
          have hc := List.getElem?_eq_getElem l0
          have en := nm_at (by omega) (by omega) hc
          refine r_ixS zl (atI_nat hc) ?_
          walk_at "rd"
          refine r_niS ?_
          walk_at "rd"
          refine r_iteN (fun h3 => ?_) (fun h3 => ?_)
          · walk_at "rd"
            exact no (by rw [en, decide_eq_false (show ¬ (cs z)[0] ∈ SM.cps.toList from h3)]; rfl)
          · rw [decide_eq_true (show (cs z)[0] ∈ SM.cps.toList from h3), Bool.true_and] at en
            walk_at "rd"
            refine l_lcS (fun C i H2 => Ex H H2 ∧ H2 C = some (.lst ((((cs z).take i).map okN).map V.bl))) (fun C hC => ⟨Same.new (Same.refl _) hC, upd_same⟩) (fun C i c H2 hC hx hP => ?_) (fun C H2 hC hP => ?_)
            · obtain ⟨e, gC⟩ := hP
              walk_at "rd"
              refine ⟨rfl, ?_⟩
              walk_at "rd"
              refine r_inS ?_
              walk_at "rd"
              have sm : ((((cs z).take i).map okN).map V.bl).length < sizeLine := by
                rw [List.length_map, List.length_map, List.length_take]
                exact Nat.lt_of_le_of_lt (show _ ≤ 6000 by rw [cs_len]; omega) (by decide)
              have put : ∀ b, b = okN c → Ex H (upd H2 C (.lst ((((cs z).take i).map okN).map V.bl ++ [.bl b]))) ∧ upd H2 C (.lst ((((cs z).take i).map okN).map V.bl ++ [.bl b])) C = some (.lst ((((cs z).take (i + 1)).map okN).map V.bl)) := fun b hb => by
                refine ⟨Same.mut e hC, ?_⟩
                rw [upd_same, List.take_add_one, hx, List.map_append, List.map_append, hb]
                rfl
              refine r_ite (fun g1 => ?_) (fun g1 => ?_)
              · have g1 : c ∈ SM.cps.toList := g1
                exact ⟨_, gC, sm, put true (by unfold okN; rw [decide_eq_true g1]; rfl)⟩
              · have g1 : ¬ c ∈ SM.cps.toList := g1
                walk_at "rd"
                refine r_inS ?_
                exact ⟨_, gC, sm, put _ (by unfold okN; rw [decide_eq_false g1]; rfl)⟩
            · obtain ⟨e, gC⟩ := hP
              rw [List.take_of_length_le (by rw [cs_len]; exact Nat.le_refl _)] at gC
              walk_at "rd"
              refine ⟨C, _, rfl, sqL gC, ?_⟩
              have := q H2 e
              rw [show nmO (some z) = ((cs z).map okN).all id by
                show nmB z = _
                rw [en, List.all_map]
                rfl] at this
              exact this
      · walk_at "rd"
        exact no (nm_off (by omega))
theorem ok_law_first_wrong (T : Txt K mg) : FnOk P w K mg base CX0 3 T.a_law_first_wrong T.d_law_first_wrong ["_law_thing"] spFW := by
  refine T.F_law_first_wrong.ok sc_law_first_wrong (fun vs H Q E h => ?_) (fun cdv A outer s H vs Q E hr h => ?_)
  · obtain ⟨v, o, rfl, _⟩ := h
    rfl
  · obtain ⟨v, o, rfl, hv, q⟩ := h
    refine ⟨_, (pss_cons (ps_if (pt_not (pt_val (pe_callB call_isi (by rfl) T.n_isinstance (by decide +kernel) (pa_cons (pv 0) (pa_cons (pe_bltn (v := .ty "str") (by rfl) T.n_str (by decide +kernel) rfl) pa_nil))))) (pss_one (ps_ret (pe_un un_neg pe_int))) pss_nil)
        (pss_cons (ps_set (i := 1) sc_law_first_wrong.nd rfl (Or.inl rfl) (pe_call0 (ok_law_signs T) hr (by rfl) T.g_law_signs T.F_law_signs.kp T.b_law_signs .nil pass0))
        (pss_cons (ps_for PassesOwn.never rfl (pi_range1 (by rfl) T.n_range (pa_cons (pe_callB call_lenU (by rfl) T.n_len (by decide +kernel) (pa_cons (pv 0) pa_nil)) pa_nil)) (pg_name (i := 2) sc_law_first_wrong.nd rfl (Or.inl rfl)) (pss_one (ps_if (pt_cmpR op_notInU (pe_ix ix_seq (pv 0) (pv 2) (fun _ _ => rfl)) (pv 1) (by rfl)) (pss_one (ps_ret (pv 2))) pss_nil)))
        (pss_one (ps_ret pe_non))))), ?_⟩
    walk_at "rd"
    refine r_isTh hv ?_
    cases o with
    | none =>
      walk_at "rd"
      exact q H (Same.refl H)
    | some z =>
      obtain ⟨rfl, hz⟩ := hv
      have zl : z.length ≤ sizeLine := by rw [sizeLine_eq]; omega
      walk_at "rd"
      refine ⟨rfl, ?_⟩
      walk_at "rd"
      refine r_lenS zl ?_
      walk_at "rd"
      refine l_R (by omega) (by omega) (fun i σ H' => ∃ y, σ = [some (.str z), some (.str AL), y] ∧ H' = H ∧ ∀ c ∈ (cs z).take i, c ∈ AL.cps.toList) ⟨none, rfl, rfl, fun c hc => by simp at hc⟩ (fun i σ H' hi hP => ?_) (fun σ H' hP => ?_)
      · obtain ⟨y, rfl, rfl, ha⟩ := hP
        have hi' : i < (cs z).length := by rw [cs_len]; omega
        walk_at "rd"
        refine r_ixS zl (atI_nat (List.getElem?_eq_getElem hi')) ?_
        walk_at "rd"
        refine r_niS ?_
        walk_at "rd"
        refine r_iteN (fun hn => ?_) (fun hm => ?_)
        · walk_at "rd"
          have := q _ (Same.refl _)
          rw [wt_some (wr_some (List.getElem?_eq_getElem hi') hn ha)] at this
          exact this
        · walk_at "rd"
          refine ⟨_, rfl, rfl, fun d hd => ?_⟩
          rw [List.take_add_one, List.getElem?_eq_getElem hi'] at hd
          rcases List.mem_append.mp hd with h | h
          · exact ha d h
          · have z' : d = (cs z)[i] := by simpa using h
            rw [z']
            exact hm
      · obtain ⟨y, rfl, rfl, ha⟩ := hP
        walk_at "rd"
        have := q _ (Same.refl _)
        rw [wt_none (wr_none fun d hd => ha d (by rw [List.take_of_length_le (by rw [cs_len]; omega)]; exact hd))] at this
        exact this
theorem ok_law_named (T : Txt K mg) : FnOk P w K mg base CX0 2 T.a_law_named T.d_law_named ["_law_thing"] spName := by
  refine T.F_law_named.ok sc_law_named (fun vs H Q E h => ?_) (fun cdv A outer s H vs Q E hr h => ?_)
  · obtain ⟨v, o, rfl, _⟩ := h
    rfl
  · obtain ⟨v, o, rfl, hv, q⟩ := h
    refine ⟨_, (pss_cons (ps_if (PW.pt (pw_or (pt_not (pt_val (pe_callB call_isi (by rfl) T.n_isinstance (by decide +kernel) (pa_cons (pv 0) (pa_cons (pe_bltn (v := .ty "str") (by rfl) T.n_str (by decide +kernel) rfl) pa_nil))))) (pw_or (pt_cmpR (op_eqU hr.units) (pe_callB call_lenU (by rfl) T.n_len (by decide +kernel) (pa_cons (pv 0) pa_nil)) pe_int (nomark _)) (pw_or (pt_cmpR op_gt (pe_callB call_lenU (by rfl) T.n_len (by decide +kernel) (pa_cons (pv 0) pa_nil)) pe_int (nomark _)) (pw_or1 (pt_cmpR op_notInU (pe_ix ix_seq (pv 0) pe_int (fun _ _ => rfl)) (pe_call0 (ok_law_small T) hr (by rfl) T.g_law_small T.F_law_small.kp T.b_law_small .nil pass0) (by rfl))))))) (pss_one (ps_ret pe_bl)) pss_nil)
        (pss_one (ps_ret (pe_cmpR (op_eqU hr.units) (pe_callB call_lenU (by rfl) T.n_len (by decide +kernel) (pa_cons (pe_lc (own := [("_law_c", 1)]) (g := gName 1) rfl sc_law_named.nd (pi_str (pv 0)) (blkOk_by (N := N_law_named) (sc := defScope s_law_named) (by decide +kernel)) (fun _ _ _ _ _ => pg_name (i := 1) sc_law_named.nd rfl (Or.inl rfl)) (fun _ _ _ _ _ => (pts_one (PW.pt (pw_and (pt_cmpR (k_notIn (K := K) rfl) (pv 1) (pe_call0 (ok_law_small T) hr (by rfl) T.g_law_small T.F_law_small.kp T.b_law_small .nil pass0) (by rfl)) (pw_and1 (pt_cmpR (k_notIn (K := K) rfl) (pv 1) pe_str (by rfl))))))) (fun _ _ _ _ _ => (pv 1))) pa_nil)) pe_int (nomark _))))), ?_⟩
    walk_at "rd"
    refine r_isTh hv ?_
    cases o with
    | none =>
      walk_at "rd"
      exact q H (Same.refl H)
    | some z =>
      obtain ⟨rfl, hz⟩ := hv
      have zl : z.length ≤ sizeLine := by rw [sizeLine_eq]; omega
      walk_at "rd"
      refine r_lenS zl ?_
      walk_at "rd"
      have no : nmB z = false → Q (.bl false) H := fun e => by
        have := q H (Same.refl H)
        rw [show nmO (some z) = false from e] at this
        exact this
      refine r_ite (fun h1 => ?_) (fun h1 => ?_)
      · have h1 := V.int.inj h1
        walk_at "rd"
        exact no (nm_off (by omega))
      · have h1 : z.length ≠ 0 := fun e => h1 (by rw [e]; rfl)
        walk_at "rd"
        refine r_lenS zl ?_
        walk_at "rd"
        refine r_ite (fun h2 => ?_) (fun h2 => ?_)
        · walk_at "rd"
          exact no (nm_off (by omega))
        · walk_at "rd"
          have l0 : 0 < (cs z).length := by rw [cs_len]; omega
          have hc := List.getElem?_eq_getElem l0
          have en := nm_at (by omega) (by omega) hc
          refine r_ixS zl (atI_nat hc) ?_
          walk_at "rd"
          refine ⟨rfl, ?_⟩
          walk_at "rd"
          refine r_niS ?_
          walk_at "rd"
          refine r_iteN (fun h3 => ?_) (fun h3 => ?_)
          · walk_at "rd"
            exact no (by rw [en, decide_eq_false (show ¬ (cs z)[0] ∈ SM.cps.toList from h3)]; rfl)
          · rw [decide_eq_true (show (cs z)[0] ∈ SM.cps.toList from h3), Bool.true_and] at en
            walk_at "rd"
            refine l_lcS (fun C i H2 => Ex H H2 ∧ H2 C = some (.lst ((((cs z).take i).filter fun c => !okN c).map fun c => V.str ⟨#[c]⟩))) (fun C hC => ⟨Same.new (Same.refl _) hC, upd_same⟩) (fun C i c H2 hC hx hP => ?_) (fun C H2 hC hP => ?_)
            · obtain ⟨e, gC⟩ := hP
              walk_at "rd"
              refine ⟨rfl, ?_⟩
              walk_at "rd"
              refine ⟨rfl, ?_⟩
              refine r_niS ?_
              walk_at "rd"
              have sm : ((((cs z).take i).filter fun c => !okN c).map fun c => V.str ⟨#[c]⟩).length < sizeLine := by
                rw [List.length_map]
                exact Nat.lt_of_le_of_lt (Nat.le_trans (List.length_filter_le _ _) (show ((cs z).take i).length ≤ 6000 by rw [List.length_take, cs_len]; omega)) (by decide)
              have stay : okN c = true → H2 C = some (.lst ((((cs z).take (i + 1)).filter fun c => !okN c).map fun c => V.str ⟨#[c]⟩)) := fun h => by
                rw [List.take_add_one, hx, List.filter_append]
                show _ = some (HO.lst (List.map _ (_ ++ List.filter _ [c])))
                rw [List.filter_cons_of_neg (by rw [h]; decide), List.filter_nil, List.append_nil]
                exact gC
              by_cases g1 : c ∈ SM.cps.toList
              · rw [if_neg (by simpa using g1), if_neg (by decide)]
                exact ⟨e, stay (by unfold okN; rw [decide_eq_true g1]; rfl)⟩
              · rw [if_pos (by simpa using g1)]
                walk_at "rd"
                refine r_niS ?_
                walk_at "rd"
                by_cases g2 : c ∈ DG.cps.toList
                · refine r_iteN (fun h => absurd g2 h) (fun _ => ?_)
                  exact ⟨e, stay (by unfold okN; rw [decide_eq_true g2, Bool.or_true])⟩
                · refine r_iteN (fun _ => ?_) (fun h => absurd h g2)
                  walk_at "rd"
                  refine ⟨_, gC, sm, Same.mut e hC, ?_⟩
                  have ok : okN c = false := by unfold okN; rw [decide_eq_false g1, decide_eq_false g2]; rfl
                  rw [upd_same, List.take_add_one, hx, List.filter_append]
                  show _ = some (HO.lst (List.map _ (_ ++ List.filter _ [c])))
                  rw [List.filter_cons_of_pos (by rw [ok]; rfl), List.filter_nil, List.map_append]
                  rfl
            · obtain ⟨e, gC⟩ := hP
              rw [List.take_of_length_le (by rw [cs_len]; exact Nat.le_refl _)] at gC
              walk_at "rd"
              refine r_lenL (sqL gC) ?_
              walk_at "rd"
              have := q H2 e
              rw [show nmO (some z) = decide (V.int (((((cs z).filter fun c => !okN c).map fun c => V.str ⟨#[c]⟩).length : Nat) : Int) = V.int 0) by
                show nmB z = _
                rw [en, List.length_map, Bool.eq_iff_iff, decide_eq_true_iff, List.all_eq_true]
                constructor
                · intro h
                  have : ((cs z).filter fun c => !okN c) = [] := List.filter_eq_nil_iff.mpr fun c hc => by rw [h c hc]; decide
                  rw [this]
                  rfl
                · intro h
                  have h := V.int.inj h
                  have e0 : ((cs z).filter fun c => !okN c) = [] := List.length_eq_zero_iff.mp (by omega)
                  intro c hc
                  have := List.filter_eq_nil_iff.mp e0 c hc
                  simpa using this] at this
              exact this
end
end K17

namespace K17
open PySem PySem.Spec PyProof.Rows L2 Dk Q48
/-- one step of a reading -/
local macro_rules | `(tactic| walk_at "rd1") => `(tactic| first
  | ((with_reducible refine r_var (v := ?rv) ?rh ?_); (case rh => rfl))
  | with_reducible refine r_c ?_
  | with_reducible refine r_seq ?_
  | with_reducible refine r_asg ?_
  | with_reducible refine r_par ?_
  | with_reducible refine r_gname ?_
  | with_reducible refine r_op ?_
  | with_reducible refine r_forLo ?_
  | with_reducible refine r_forTo ?_
  | with_reducible refine r_forSo ?_
  | with_reducible refine r_forRo ?_
  | with_reducible refine r_forRvo ?_
  | with_reducible refine r_forZo ?_
  | with_reducible refine r_revS ?_
  | with_reducible refine r_lcRo ?_
  | with_reducible refine r_lcLo ?_
  | with_reducible refine r_yes ?_
  | with_reducible refine r_callK0 ?_
  | with_reducible refine r_break ?_
  | with_reducible refine r_continue ?_
  | with_reducible refine r_forR2o ?_
  | with_reducible refine r_forEo ?_
  | with_reducible refine r_forESo ?_
  | with_reducible refine r_xfo ?_
  | with_reducible refine r_noP ?_
  | with_reducible refine r_part ?_
  | with_reducible refine r_pI ?_
  | with_reducible refine r_gcons ?_
  | with_reducible refine r_gnil ?_
  | with_reducible refine r_mkO ?_
  | with_reducible refine r_un ?_
  | with_reducible refine r_addI ?_
  | with_reducible refine r_I0 ?_
  | with_reducible refine r_U ?_
  | with_reducible refine r_cons ?_
  | with_reducible refine r_nil ?_
  | with_reducible refine r_CB ?_
  | with_reducible refine r_call ?_
  | with_reducible refine r_callS ?_
  | with_reducible refine r_int ?_
  | with_reducible refine r_max ?_
  | with_reducible refine r_min ?_
  | with_reducible refine r_test ?_
  | with_reducible refine r_B ?_
  | with_reducible refine r_blv ?_
  | with_reducible refine r_and ?_
  | with_reducible refine r_or ?_
  | with_reducible refine r_not ?_
  | with_reducible refine r_andV ?_
  | with_reducible refine r_orV ?_
  | with_reducible refine r_notV ?_
  | with_reducible refine r_ifE ?_
  | with_reducible refine r_ifS ?_
  | with_reducible refine r_ret ?_
  | with_reducible refine r_retN ?_
  | with_reducible refine r_drop ?_
  | with_reducible refine r_next ?_
  | with_reducible refine r_sl ?_
  | with_reducible refine r_gsub ?_
  | with_reducible refine r_bm ?_
  | with_reducible refine r_bm0 ?_
  | with_reducible refine r_tup ?_
  | with_reducible refine r_lst ?_
  | with_reducible refine r_isN ?_
  | with_reducible refine r_notN ?_
  | with_reducible refine r_chain ?_
  | with_reducible refine r_callK ?_
  | with_reducible refine r_isB ?_
  | with_reducible refine r_lcEio ?_
  | with_reducible refine r_forEi ?_
  | with_reducible refine r_lcTo ?_
  | with_reducible refine r_lcSo ?_
  | with_reducible refine r_m1 ?_
  | with_reducible refine r_dget ?_
  | with_reducible refine r_din ?_
  | with_reducible refine r_dnotin ?_
  | with_reducible refine r_starC ?_
  | with_reducible refine r_callKS ?_
  | with_reducible refine r_itt ?_
  | with_reducible refine r_iff ?_
  | with_reducible refine r_ittN ?_
  | with_reducible refine r_iffN ?_
  | ((with_reducible refine r_ittD ?rh ?_); (case rh => rfl))
  | ((with_reducible refine r_iffD ?rh ?_); (case rh => rfl))
  | ((with_reducible refine r_modP ?rh ?_); (case rh => decide))
  | ((with_reducible refine r_eq ?rh ?_); (case rh => rfl))
  | ((with_reducible refine r_eqP ?rh ?_); (case rh => rfl))
  | ((with_reducible refine r_ne ?rh ?_); (case rh => rfl)))
local macro_rules | `(tactic| walk_at "rd") => `(tactic| repeat walk_at "rd1")
local macro_rules | `(tactic| walk_at "isi") => `(tactic| first | refine r_isi (b := true) (by assumption) (by decide +kernel) ?_ | refine r_isi (b := false) (by assumption) (by decide +kernel) ?_)
local macro_rules | `(tactic| walk_at "rs1") => `(tactic| first
  | with_reducible refine r_seq ?_
  | with_reducible refine r_asg ?_
  | with_reducible refine r_gname ?_
  | with_reducible refine r_ret ?_)
local macro_rules | `(tactic| walk_at "rs") => `(tactic| repeat walk_at "rs1")

def chk (o : Option Str) (m : Nat) : Str × V := match wt o with
  | some i => ("sign", .int i)
  | none => if m < lnO o then ("much", .str "text") else ("let", .non)
theorem chk_sign {o : Option Str} {m : Nat} {i : Int} (h : wt o = some i) : (chk o m).1 = ("sign" : Str) ∧ (chk o m).2 = .int i := by
  unfold chk
  rw [h]
  exact ⟨rfl, rfl⟩
theorem chk_much {o : Option Str} {m : Nat} (h : wt o = none) (c : m < lnO o) : (chk o m).1 = ("much" : Str) ∧ (chk o m).2 = .str "text" := by
  unfold chk
  rw [h]
  dsimp only
  rw [if_pos c]
  exact ⟨rfl, rfl⟩
theorem chk_let {o : Option Str} {m : Nat} (h : wt o = none) (c : ¬ m < lnO o) : (chk o m).1 = ("let" : Str) ∧ (chk o m).2 = .non := by
  unfold chk
  rw [h]
  dsimp only
  rw [if_neg c]
  exact ⟨rfl, rfl⟩
def spChk : Sp := fun vs H Q _ => ∃ (v : V) (o : Option Str) (m : Nat), vs = [v, .int (m : Nat)] ∧ Th H v o ∧ ∀ p H', Ex H H' → H' p = some (.tup [.str (chk o m).1, (chk o m).2]) → Q (.ref p) H'
def spValue : Sp := fun vs H Q _ => ∃ (a : Addr) (v : V) (o : Option Str), vs = [.ref a, v] ∧ Th H v o ∧ ∀ H', Ex H H' → Q (.bl true) H'
section
variable {P : Program} {w : World} {K : PySem.W.Frag} {mg : Str → Option Value} {base : Heap}
theorem ok_law_checked (T : Txt K mg) : FnOk P w K mg base CX0 4 T.a_law_checked T.d_law_checked ["_law_thing", "_law_most"] spChk := by
  refine T.F_law_checked.ok sc_law_checked (fun vs H Q E h => ?_) (fun cdv A outer s H vs Q E hr h => ?_)
  · obtain ⟨v, o, m, rfl, _⟩ := h
    rfl
  · obtain ⟨v, o, m, rfl, hv, q⟩ := h
    refine ⟨_, (pss_cons (Ta.ps_try (i := 3) rfl rfl sc_law_checked.nd rfl rfl takes0 (fun W pn xe tk hpo => (pss_one (ps_set (i := 2) sc_law_checked.nd rfl (Or.inl rfl) (pe_callS (ok_check_text T) hr rfl T.g_check_text T.F_check_text.kp T.b_check_text (fun σ => passAt tk σ) (pa_cons (pv 0) (pa_cons (pv 1) pa_nil)))))) (Ta.Ok.cons ⟨rfl, by decide, .inl T.g_BadText⟩ (fun a oe cls d pn hz hf => (pss_one (ps_ret (pe_tup (pa_cons pe_str (pa_cons (pe_xf T.x_BadText T.na_BadText_at hz hf (pv 3)) pa_nil)))))) (Ta.Ok.cons ⟨rfl, by decide, .inl T.g_TooMuch⟩ (fun a oe cls d pn hz hf => (pss_one (ps_ret (pe_tup (pa_cons pe_str (pa_cons (pe_xf T.x_TooMuch T.na_TooMuch_what hz hf (pv 3)) pa_nil)))))) Ta.Ok.nil)))
        (pss_one (ps_ret (pe_tup (pa_cons pe_str (pa_cons (pv 2) pa_nil)))))), ?_⟩
    walk_at "rd"
    refine ⟨v, o, m, rfl, hv, fun i e H1 d e1 hd hd1 => ?_, fun e c H1 e1 => ?_, fun e c H1 d e1 hd hd1 => ?_⟩
    · refine ⟨true, T.e_BadText, fun _ a0 _ => ?_, fun q => Bool.noConfusion q⟩
      walk_at "rd"
      refine ⟨rfl, rfl, d, _, _, rfl, hd1, rfl, ?_⟩
      walk_at "rd"
      refine r_small nsz fun p hp => ?_
      exact q p _ (e1.trans (Same.new (Same.refl _) hp)) (by rw [upd_same, (chk_sign e).1, (chk_sign e).2])
    · walk_at "rd"
      refine r_small nsz fun p hp => ?_
      exact q p _ (e1.trans (Same.new (Same.refl _) hp)) (by rw [upd_same, (chk_let e (by omega)).1, (chk_let e (by omega)).2])
    · refine ⟨false, T.u_TooMuch_BadText, fun q => Bool.noConfusion q, fun _ => ⟨true, T.e_TooMuch, fun _ a0 _ => ?_, fun q => Bool.noConfusion q⟩⟩
      walk_at "rd"
      refine ⟨rfl, rfl, d, _, _, rfl, hd1, rfl, ?_⟩
      walk_at "rd"
      refine r_small nsz fun p hp => ?_
      exact q p _ (e1.trans (Same.new (Same.refl _) hp)) (by rw [upd_same, (chk_much e c).1, (chk_much e c).2])
theorem ok_law_value (T : Txt K mg) : FnOk P w K mg base CX0 5 T.a_law_value T.d_law_value ["_law_state", "_law_thing"] spValue := by
  refine T.F_law_value.ok sc_law_value (fun vs H Q E h => ?_) (fun cdv A outer s H vs Q E hr h => ?_)
  · obtain ⟨a, v, o, rfl, _⟩ := h
    rfl
  · obtain ⟨a, v, o, rfl, hv, q⟩ := h
    refine ⟨_, (pss_cons (ps_set (i := 2) sc_law_value.nd rfl (Or.inl rfl) (pe_call (ok_law_first_wrong T) (hr.mono (by decide)) (by rfl) T.g_law_first_wrong T.F_law_first_wrong.kp T.b_law_first_wrong .nil pass0 (pa_cons (pv 1) pa_nil)))
        (pss_cons (ps_if (PW.pt (pw_or (pt_not (pt_val (pe_call (ok_law_told T) (hr.mono (by decide)) (by rfl) T.g_law_told T.F_law_told.kp T.b_law_told .nil pass0 (pa_cons (pe_cmpR op_isU (pv 2) pe_non (nomark _)) (pa_cons (pe_call (ok_is_text T) (hr.mono (by decide)) (by rfl) T.g_is_text T.F_is_text.kp T.b_is_text .nil pass0 (pa_cons (pv 1) pa_nil)) pa_nil))))) (pw_or1 (pt_not (pt_val (pe_call (ok_law_told T) (hr.mono (by decide)) (by rfl) T.g_law_told T.F_law_told.kp T.b_law_told .nil pass0 (pa_cons (pe_call (ok_law_named T) (hr.mono (by decide)) (by rfl) T.g_law_named T.F_law_named.kp T.b_law_named .nil pass0 (pa_cons (pv 1) pa_nil)) (pa_cons (pe_call (ok_is_name T) (hr.mono (by decide)) (by rfl) T.g_is_name T.F_is_name.kp T.b_is_name .nil pass0 (pa_cons (pv 1) pa_nil)) pa_nil)))))))) (pss_one (ps_ret pe_bl)) pss_nil)
        (pss_cons (ps_set (i := 3) sc_law_value.nd rfl (Or.inl rfl) pe_int)
        (Evl.pss_cut (ps_if (pt_val (pe_callB call_isi (by rfl) T.n_isinstance (by decide +kernel) (pa_cons (pv 1) (pa_cons (pe_bltn (v := .ty "str") (by rfl) T.n_str (by decide +kernel) rfl) pa_nil)))) (pss_one (ps_set (i := 3) sc_law_value.nd rfl (Or.inl rfl) (pe_callB call_lenU (by rfl) T.n_len (by decide +kernel) (pa_cons (pv 1) pa_nil)))) pss_nil)
        (pss_cons (ps_for PassesOwn.never rfl (pi_list (pe_lst (pa_cons (pv 3) (pa_cons (pe_callB (call_maxU rfl) (by rfl) T.n_max (by decide +kernel) (pa_cons pe_int (pa_cons (pe_op op_sub (pv 3) pe_int) pa_nil))) (pa_cons (pe_op op_addU (pv 3) pe_int) (pa_cons pe_int (pa_cons pe_int pa_nil))))))) (pg_name (i := 4) sc_law_value.nd rfl (Or.inl rfl)) (pss_cons (ps_set (i := 5) sc_law_value.nd rfl (Or.inl rfl) (pe_call (ok_law_checked T) hr (by rfl) T.g_law_checked T.F_law_checked.kp T.b_law_checked .nil pass0 (pa_cons (pv 1) (pa_cons (pv 4) pa_nil))))
        (pss_one (ps_if (pt_cmpR op_isnotU (pv 2) pe_non (nomark _)) (pss_one (ps_if (PW.pt (pw_or (pt_cmpR (op_neU hr.units) (pe_ix ix_seq (pv 5) pe_int (fun _ _ => rfl)) pe_str (nomark _)) (pw_or1 (pt_not (pt_val (pe_call (ok_law_is T) (hr.mono (by decide)) (by rfl) T.g_law_is T.F_law_is.kp T.b_law_is .nil pass0 (pa_cons (pv 2) (pa_cons (pe_ix ix_seq (pv 5) pe_int (fun _ _ => rfl)) pa_nil)))))))) (pss_one (ps_ret pe_bl)) pss_nil)) (pss_one (ps_if (pt_cmpR op_gt (pv 3) (pv 4) (nomark _)) (pss_one (ps_if (PW.pt (pw_or (pt_cmpR (op_neU hr.units) (pe_ix ix_seq (pv 5) pe_int (fun _ _ => rfl)) pe_str (nomark _)) (pw_or1 (pt_cmpR (op_neU hr.units) (pe_ix ix_seq (pv 5) pe_int (fun _ _ => rfl)) pe_str (nomark _))))) (pss_one (ps_ret pe_bl)) pss_nil)) (pss_one (ps_if (PW.pt (pw_or (pt_cmpR (op_neU hr.units) (pe_ix ix_seq (pv 5) pe_int (fun _ _ => rfl)) pe_str (nomark _)) (pw_or1 (pt_cmpR op_isnotU (pe_ix ix_seq (pv 5) pe_int (fun _ _ => rfl)) pe_non (nomark _))))) (pss_one (ps_ret pe_bl)) pss_nil))))))))
        (pss_one (ps_ret pe_bl))))))), ?_⟩
    walk_at "rd"
    refine ⟨v, o, rfl, hv, fun H1 e1 => ?_⟩
    walk_at "rd"
    have hv1 := hv.up e1
    refine ⟨v, o, rfl, hv1, fun H2 e2 => ?_⟩
    have e2 := e1.trans e2
    have hv2 := hv.up e2
    walk_at "rd"
    refine ⟨(wt o).isNone, by rw [ovI_non]; rfl, ?_⟩
    walk_at "rd"
    refine ⟨v, o, rfl, hv2, fun H3 e3 => ?_⟩
    have e3 := e2.trans e3
    have hv3 := hv.up e3
    walk_at "rd"
    refine ⟨v, o, rfl, hv3, fun H4 e4 => ?_⟩
    have e4 := e3.trans e4
    have hv4 := hv.up e4
    walk_at "rd"
    refine ⟨nmO o, rfl, ?_⟩
    walk_at "rd"
    refine ⟨fun σ' H' => ∃ y1 y2, σ' = [some (.ref a), some v, some (ovI (wt o)), some (.int (lnO o : Nat)), y1, y2] ∧ H' = H4, ?_, ?_⟩
    · walk_at "rd"
      refine r_isTh hv4 ?_
      cases o with
      | none =>
        walk_at "rd"
        exact ⟨_, _, rfl, rfl⟩
      | some z =>
        obtain ⟨rfl, hz⟩ := hv4
        walk_at "rd"
        refine r_lenS (by rw [sizeLine_eq]; omega) ?_
        walk_at "rd"
        exact ⟨_, _, rfl, rfl⟩
    · rintro σ' H' ⟨y1, y2, rfl, rfl⟩
      walk_at "rd"
      refine r_small nsz fun L hL => ?_
      walk_at "rd"
      refine l_L (sqL upd_same) (fun i σ' H5 => ∃ y1 y2, σ' = [some (.ref a), some v, some (ovI (wt o)), some (.int (lnO o : Nat)), y1, y2] ∧ Ex (upd H' L (.lst [.int (lnO o : Nat), .int (max 0 ((lnO o : Nat) - 1)), .int ((lnO o : Nat) + 1), .int 0, .int 4000])) H5) ⟨_, _, rfl, Same.refl _⟩ (fun i σ' H5 h => ?_) (fun i x σ' H5 hx hP => ?_) (fun σ' H5 hP => ?_)
      · obtain ⟨_, _, _, e⟩ := h
        exact sqL (e _ _ upd_same)
      · obtain ⟨y1, y2, rfl, e5⟩ := hP
        have nat5 : ∃ m : Nat, x = V.int (m : Nat) := by
          have hm := List.mem_of_getElem? hx
          simp only [List.mem_cons, List.not_mem_nil, or_false] at hm
          rcases hm with rfl | rfl | rfl | rfl | rfl
          · exact ⟨_, rfl⟩
          · exact ⟨lnO o - 1, by congr 1; omega⟩
          · exact ⟨lnO o + 1, rfl⟩
          · exact ⟨0, rfl⟩
          · exact ⟨4000, rfl⟩
        obtain ⟨m, rfl⟩ := nat5
        have hv5 := (hv4.up (Same.new (Same.refl _) hL)).up e5
        walk_at "rd"
        refine ⟨v, o, m, rfl, hv5, fun p H6 e6 hp6 => ?_⟩
        have e56 := e5.trans e6
        walk_at "rd"
        cases e : wt o with
        | some i =>
          rw [(chk_sign e).1, (chk_sign e).2] at hp6
          refine r_iteN (fun _ => ?_) (fun h => absurd h (fun h => nomatch h))
          walk_at "rd"
          refine r_ixT (sqT hp6) (atI_nat (j := 0) rfl) ?_
          walk_at "rd"
          refine r_ixT (sqT hp6) (atI_nat (j := 1) rfl) ?_
          walk_at "rd"
          refine ⟨_, rfl, ?_⟩
          walk_at "rd"
          exact ⟨_, _, rfl, e56⟩
        | none =>
          refine r_iteN (fun h => absurd rfl h) (fun _ => ?_)
          walk_at "rd"
          by_cases c : m < lnO o
          · rw [(chk_much e c).1, (chk_much e c).2] at hp6
            refine r_ite (fun _ => ?_) (fun h => absurd (by omega) h)
            walk_at "rd"
            refine r_ixT (sqT hp6) (atI_nat (j := 0) rfl) ?_
            walk_at "rd"
            refine r_ixT (sqT hp6) (atI_nat (j := 1) rfl) ?_
            walk_at "rd"
            exact ⟨_, _, rfl, e56⟩
          · rw [(chk_let e c).1, (chk_let e c).2] at hp6
            refine r_ite (fun h => absurd h (by omega)) (fun _ => ?_)
            walk_at "rd"
            refine r_ixT (sqT hp6) (atI_nat (j := 0) rfl) ?_
            walk_at "rd"
            refine r_ixT (sqT hp6) (atI_nat (j := 1) rfl) ?_
            walk_at "rd"
            exact ⟨_, _, rfl, e56⟩
      · obtain ⟨y1, y2, rfl, e5⟩ := hP
        walk_at "rd"
        exact q H5 (e4.trans ((Same.new (Same.refl _) hL).trans e5))
end
end K17

namespace K17
open PySem PySem.Spec PyProof.Rows L2 Dk Q48
/-- one step of a reading -/
local macro_rules | `(tactic| walk_at "rd1") => `(tactic| first
  | ((with_reducible refine r_var (v := ?rv) ?rh ?_); (case rh => rfl))
  | with_reducible refine r_c ?_
  | with_reducible refine r_seq ?_
  | with_reducible refine r_asg ?_
  | with_reducible refine r_par ?_
  | with_reducible refine r_gname ?_
  | with_reducible refine r_op ?_
  | with_reducible refine r_forLo ?_
  | with_reducible refine r_forTo ?_
  | with_reducible refine r_forSo ?_
  | with_reducible refine r_forRo ?_
  | with_reducible refine r_forRvo ?_
  | with_reducible refine r_forZo ?_
  | with_reducible refine r_revS ?_
  | with_reducible refine r_lcRo ?_
  | with_reducible refine r_lcLo ?_
  | with_reducible refine r_yes ?_
  | with_reducible refine r_callK0 ?_
  | with_reducible refine r_break ?_
  | with_reducible refine r_continue ?_
  | with_reducible refine r_forR2o ?_
  | with_reducible refine r_forEo ?_
  | with_reducible refine r_forESo ?_
  | with_reducible refine r_xfo ?_
  | with_reducible refine r_noP ?_
  | with_reducible refine r_part ?_
  | with_reducible refine r_pI ?_
  | with_reducible refine r_gcons ?_
  | with_reducible refine r_gnil ?_
  | with_reducible refine r_mkO ?_
  | with_reducible refine r_un ?_
  | with_reducible refine r_addI ?_
  | with_reducible refine r_I0 ?_
  | with_reducible refine r_U ?_
  | with_reducible refine r_cons ?_
  | with_reducible refine r_nil ?_
  | with_reducible refine r_CB ?_
  | with_reducible refine r_call ?_
  | with_reducible refine r_callS ?_
  | with_reducible refine r_int ?_
  | with_reducible refine r_max ?_
  | with_reducible refine r_min ?_
  | with_reducible refine r_test ?_
  | with_reducible refine r_B ?_
  | with_reducible refine r_blv ?_
  | with_reducible refine r_and ?_
  | with_reducible refine r_or ?_
  | with_reducible refine r_not ?_
  | with_reducible refine r_andV ?_
  | with_reducible refine r_orV ?_
  | with_reducible refine r_notV ?_
  | with_reducible refine r_ifE ?_
  | with_reducible refine r_ifS ?_
  | with_reducible refine r_ret ?_
  | with_reducible refine r_retN ?_
  | with_reducible refine r_drop ?_
  | with_reducible refine r_next ?_
  | with_reducible refine r_sl ?_
  | with_reducible refine r_gsub ?_
  | with_reducible refine r_bm ?_
  | with_reducible refine r_bm0 ?_
  | with_reducible refine r_tup ?_
  | with_reducible refine r_lst ?_
  | with_reducible refine r_isN ?_
  | with_reducible refine r_notN ?_
  | with_reducible refine r_chain ?_
  | with_reducible refine r_callK ?_
  | with_reducible refine r_isB ?_
  | with_reducible refine r_lcEio ?_
  | with_reducible refine r_forEi ?_
  | with_reducible refine r_lcTo ?_
  | with_reducible refine r_lcSo ?_
  | with_reducible refine r_m1 ?_
  | with_reducible refine r_dget ?_
  | with_reducible refine r_din ?_
  | with_reducible refine r_dnotin ?_
  | with_reducible refine r_starC ?_
  | with_reducible refine r_callKS ?_
  | with_reducible refine r_itt ?_
  | with_reducible refine r_iff ?_
  | with_reducible refine r_ittN ?_
  | with_reducible refine r_iffN ?_
  | ((with_reducible refine r_ittD ?rh ?_); (case rh => rfl))
  | ((with_reducible refine r_iffD ?rh ?_); (case rh => rfl))
  | ((with_reducible refine r_modP ?rh ?_); (case rh => decide))
  | ((with_reducible refine r_eq ?rh ?_); (case rh => rfl))
  | ((with_reducible refine r_eqP ?rh ?_); (case rh => rfl))
  | ((with_reducible refine r_ne ?rh ?_); (case rh => rfl)))
local macro_rules | `(tactic| walk_at "rd") => `(tactic| repeat walk_at "rd1")
local macro_rules | `(tactic| walk_at "isi") => `(tactic| first | refine r_isi (b := true) (by assumption) (by decide +kernel) ?_ | refine r_isi (b := false) (by assumption) (by decide +kernel) ?_)
local macro_rules | `(tactic| walk_at "rs1") => `(tactic| first
  | with_reducible refine r_seq ?_
  | with_reducible refine r_asg ?_
  | with_reducible refine r_gname ?_
  | with_reducible refine r_ret ?_)
local macro_rules | `(tactic| walk_at "rs") => `(tactic| repeat walk_at "rs1")

local macro_rules | `(tactic| walk_at "cat") => `(tactic| repeat first | (walk_at "rd1") | (with_reducible refine r_addS (by simp only [app_len, sizeLine_eq]; omega) ?_) | (with_reducible refine r_slS (by rw [sizeLine_eq]; omega) ?_))
/-- a short text -/
def Sh (v : V) : Prop := ∃ z : Str, v = .str z ∧ z.length ≤ 100
theorem r_addSh {K : PySem.W.Frag} {p q : Addr} {xs ys : List V} {H : Hp} {Q : VK} (hp : H p = some (.lst xs)) (hq : H q = some (.lst ys)) (h1 : xs.length ≤ 1000) (h2 : ys.length ≤ 1000) (hx : ∀ v ∈ xs, Sh v) (hy : ∀ v ∈ ys, Sh v)
    (k : ∀ l H' zs, zs.length ≤ xs.length + ys.length → (∀ v ∈ zs, Sh v) → Ex H H' → H l = none → H' l = some (.lst zs) → Q (.ref l) H') : rAddU K (.ref p) (.ref q) H Q :=
  r_addL hp hq (by rw [sizeLine_eq]; omega) fun l hl => k l _ (xs ++ ys) (by rw [List.length_append]; exact Nat.le_refl _) (fun v hv => (List.mem_append.mp hv).elim (hx v) (hy v)) (Same.new (Same.refl _) hl) hl upd_same
def KN : Str := "abcdefghijklmnopqrstuvwxyz0123456789"
def spName2 : Sp := fun vs H Q _ => ∃ (a : Addr) (n : Nat), vs = [.ref a, .int (n : Nat)] ∧ Stt H a ∧ n ≤ 20 ∧ ∀ o H', Drw (cell a) H H' → o.length = n + 1 → Q (.str o) H'
def spValues : Sp := fun vs H Q _ => ∃ a : Addr, vs = [.ref a] ∧ Stt H a ∧ ∀ p H' xs, Drw (cell a) H H' → H' p = some (.lst xs) → (∀ v ∈ xs, ∃ o, Th H' v o) → Q (.ref p) H'
section
variable {P : Program} {w : World} {K : PySem.W.Frag} {mg : Str → Option Value} {base : Heap}
theorem ok_law_name (T : Txt K mg) : FnOk P w K mg base CX0 2 T.a_law_name T.d_law_name ["_law_state", "_law_size"] spName2 := by
  refine T.F_law_name.ok sc_law_name (fun vs H Q E h => ?_) (fun cdv A outer s H vs Q E hr h => ?_)
  · obtain ⟨a, n, rfl, _⟩ := h
    rfl
  · obtain ⟨a, n, rfl, hs, hn, q⟩ := h
    refine ⟨_, (pss_cons (ps_set (i := 2) sc_law_name.nd rfl (Or.inr rfl) (pe_op op_addU (pe_call0 (ok_law_small T) hr (by rfl) T.g_law_small T.F_law_small.kp T.b_law_small .nil pass0) pe_str))
        (pss_one (ps_ret (pe_op op_addU (pe_ix ix_seq (pv 2) (pe_call (ok_law_draw T) hr (by rfl) T.g_law_draw T.F_law_draw.kp T.b_law_draw .nil pass0 (pa_cons (pv 0) (pa_cons pe_int pa_nil))) (fun _ _ => rfl)) (pe_join pe_str (pe_lc (own := [("_law_k", 3)]) (g := gName 3) rfl sc_law_name.nd (pi_range1 (by rfl) T.n_range (pa_cons (pv 1) pa_nil)) (blkOk_by (N := N_law_name) (sc := defScope s_law_name) (by decide +kernel)) (fun _ _ _ _ _ => pg_name (i := 3) sc_law_name.nd rfl (Or.inl rfl)) (fun _ _ _ _ _ => pts_nil) (fun _ _ _ _ _ => (pe_ix (k_ix (K := K) rfl) (pv 2) (pe_call (ok_law_draw T) hr (by rfl) T.g_law_draw T.F_law_draw.kp T.b_law_draw .nil pass0 (pa_cons (pv 0) (pa_cons pe_int pa_nil))) (fun _ _ => rfl))))))))), ?_⟩
    walk_at "rd"
    refine ⟨rfl, ?_⟩
    walk_at "rd"
    refine r_addS (by decide +kernel) ?_
    obtain ⟨z, hz, zl⟩ : ∃ z : Str, z = SM ++ Str.ofString "0123456789" ∧ z.length = 36 := ⟨_, rfl, by decide +kernel⟩
    rw [← hz]
    have zs : z.length ≤ sizeLine := by rw [zl, sizeLine_eq]; decide
    have zat : ∀ d : Nat, (d : Int) < 36 → ∃ c, atI z.cps.toList (d : Nat) = some c := fun d hd => by
      have hl : d < (cs z).length := by rw [cs_len, zl]; omega
      exact ⟨_, atI_nat (List.getElem?_eq_getElem hl)⟩
    walk_at "rd"
    refine ⟨a, 26, rfl, hs, by decide, fun d H1 d1 D1 => ?_⟩
    obtain ⟨c, hc⟩ := zat d (by omega)
    walk_at "rd"
    refine r_ixS zs hc ?_
    walk_at "rd"
    refine ⟨⟨_, rfl⟩, ?_⟩
    walk_at "rd"
    refine l_lcR (by omega) (by omega) (fun C i H2 => Drw (cell a) H H2 ∧ ∃ ls : List Nat, H2 C = some (.lst ((ls.map fun c => (⟨#[c]⟩ : Str)).map V.str)) ∧ ls.length = i) (fun C hC => ⟨D1.new hC, [], upd_same, rfl⟩) (fun C i H2 hC hi hP => ?_) (fun C H2 hC hP => ?_)
    · obtain ⟨D2, ls, gC, hl⟩ := hP
      have na := (cell a).fresh D1.st hC
      have hCH : H C = none := by
        cases e : H C with
        | none => rfl
        | some o => rw [D1.at na e] at hC; cases hC
      walk_at "rd"
      refine ⟨rfl, ?_⟩
      walk_at "rd"
      refine ⟨a, 36, rfl, D2.st, by decide, fun d2 H3 e2 D3 => ?_⟩
      obtain ⟨c2, hc2⟩ := zat d2 (by omega)
      walk_at "rd"
      refine r_ixS zs hc2 ?_
      refine ⟨_, D3.at na gC, by rw [List.length_map, List.length_map]; exact Nat.lt_of_le_of_lt (show ls.length ≤ 20 by omega) (by decide), (D2.trans D3).put hCH na, ls ++ [c2], by rw [upd_same, List.map_append, List.map_append]; rfl, by rw [List.length_append, hl]; rfl⟩
    · obtain ⟨D2, ls, gC, hl⟩ := hP
      rw [Int.toNat_natCast] at hl
      refine ⟨"", C, _, rfl, rfl, .inl (sqL gC), ?_, ?_⟩
      · rw [sum_signs]
        show ls.length + _ * 0 ≤ _
        omega
      obtain ⟨o, eo, ho⟩ : ∃ o, o = Txt.join "" (ls.map fun c => (⟨#[c]⟩ : Str)) ∧ cs o = ls := ⟨_, rfl, join_signs ls⟩
      have ol : o.length = n := by rw [← cs_len, ho]; exact hl
      show rAddU K (.str ⟨#[c]⟩) (.str (Txt.join "" (ls.map fun c => (⟨#[c]⟩ : Str)))) H2 _
      rw [← eo]
      refine r_addS (by rw [ol, sizeLine_eq]; show 1 + n ≤ _; omega) ?_
      exact q _ H2 D2 (by rw [app_len, ol]; show 1 + n = _; omega)
theorem ok_law_values (T : Txt K mg) : FnOk P w K mg base CX0 4 T.a_law_values T.d_law_values ["_law_state"] spValues := by
  refine T.F_law_values.ok sc_law_values (fun vs H Q E h => ?_) (fun cdv A outer s H vs Q E hr h => ?_)
  · obtain ⟨a, rfl, _⟩ := h
    rfl
  · obtain ⟨a, rfl, hs, q⟩ := h
    refine ⟨_, (pss_cons (ps_set (i := 1) sc_law_values.nd rfl (Or.inl rfl) (pe_call (ok_law_name T) (hr.mono (by decide)) (by rfl) T.g_law_name T.F_law_name.kp T.b_law_name .nil pass0 (pa_cons (pv 0) (pa_cons (pe_call (ok_law_draw T) (hr.mono (by decide)) (by rfl) T.g_law_draw T.F_law_draw.kp T.b_law_draw .nil pass0 (pa_cons (pv 0) (pa_cons pe_int pa_nil))) pa_nil))))
        (pss_cons (ps_set (i := 2) sc_law_values.nd rfl (Or.inl rfl) (pe_call (ok_law_text T) hr (by rfl) T.g_law_text T.F_law_text.kp T.b_law_text .nil pass0 (pa_cons (pv 0) (pa_cons (pe_call (ok_law_draw T) (hr.mono (by decide)) (by rfl) T.g_law_draw T.F_law_draw.kp T.b_law_draw .nil pass0 (pa_cons (pv 0) (pa_cons pe_int pa_nil))) pa_nil))))
        (pss_cons (ps_set (i := 3) sc_law_values.nd rfl (Or.inl rfl) (pe_call (ok_law_draw T) (hr.mono (by decide)) (by rfl) T.g_law_draw T.F_law_draw.kp T.b_law_draw .nil pass0 (pa_cons (pv 0) (pa_cons (pe_op op_addU (pe_callB call_lenU (by rfl) T.n_len (by decide +kernel) (pa_cons (pv 1) pa_nil)) pe_int) pa_nil))))
        (pss_cons (ps_set (i := 4) sc_law_values.nd rfl (Or.inl rfl) (pe_lst (pa_cons (pv 1) (pa_cons (pv 2) (pa_cons (pe_op op_addU (pe_op op_addU (pe_slice sl_U (pv 1) po_none (po_some (pv 3))) pe_str) (pe_slice sl_U (pv 1) (po_some (pv 3)) po_none)) (pa_cons (pe_op op_addU (pv 2) pe_str) (pa_cons (pe_op op_addU (pe_op op_addU pe_str (pv 2)) pe_str) (pa_cons (pe_op op_addU (pv 1) pe_str) (pa_cons (pe_op op_addU pe_str (pv 1)) pa_nil)))))))))
        (pss_cons (ps_set (i := 4) sc_law_values.nd rfl (Or.inl rfl) (pe_op op_addU (pv 4) (pe_lst (pa_cons (pe_op op_addU (pe_op op_addU (pe_slice sl_U (pv 1) po_none (po_some (pv 3))) pe_str) (pe_slice sl_U (pv 1) (po_some (pv 3)) po_none)) (pa_cons (pe_op op_addU (pe_op op_addU (pe_slice sl_U (pv 1) po_none (po_some (pv 3))) pe_str) (pe_slice sl_U (pv 1) (po_some (pv 3)) po_none)) (pa_cons (pe_op op_addU (pv 1) pe_str) (pa_cons (pe_op op_addU pe_str (pv 1)) (pa_cons (pe_op op_addU pe_str (pv 1)) pa_nil))))))))
        (pss_cons (ps_set (i := 4) sc_law_values.nd rfl (Or.inl rfl) (pe_op op_addU (pv 4) (pe_lst (pa_cons pe_str (pa_cons pe_str (pa_cons pe_str (pa_cons pe_str (pa_cons (pe_call (ok_law_name T) (hr.mono (by decide)) (by rfl) T.g_law_name T.F_law_name.kp T.b_law_name .nil pass0 (pa_cons (pv 0) (pa_cons pe_int pa_nil))) (pa_cons (pe_call (ok_law_name T) (hr.mono (by decide)) (by rfl) T.g_law_name T.F_law_name.kp T.b_law_name .nil pass0 (pa_cons (pv 0) (pa_cons pe_int pa_nil))) (pa_cons (pe_op op_addU (pe_op op_addU (pe_slice sl_U (pv 1) po_none (po_some (pv 3))) pe_str) (pe_slice sl_U (pv 1) (po_some (pv 3)) po_none)) pa_nil))))))))))
        (pss_cons (ps_set (i := 4) sc_law_values.nd rfl (Or.inl rfl) (pe_op op_addU (pv 4) (pe_lst (pa_cons (pe_op op_addU (pe_op op_addU (pe_slice sl_U (pv 1) po_none (po_some (pv 3))) (pe_ix ix_seq (pe_call0 (ok_law_signs T) (hr.mono (by decide)) (by rfl) T.g_law_signs T.F_law_signs.kp T.b_law_signs .nil pass0) (pe_call (ok_law_draw T) (hr.mono (by decide)) (by rfl) T.g_law_draw T.F_law_draw.kp T.b_law_draw .nil pass0 (pa_cons (pv 0) (pa_cons pe_int pa_nil))) (fun _ _ => rfl))) (pe_slice sl_U (pv 1) (po_some (pv 3)) po_none)) pa_nil))))
        (pss_cons (ps_set (i := 5) sc_law_values.nd rfl (Or.inl rfl) (pe_lst (pa_cons pe_non (pa_cons pe_bl (pa_cons pe_bl (pa_cons pe_int (pa_cons pe_int (pa_cons (pe_un un_neg pe_int) (pa_cons (pe_tup pa_nil) (pa_cons (pe_lst pa_nil) (pa_cons pe_dnewK (pa_cons (pe_tup (pa_cons pe_str pa_nil)) (pa_cons (pe_lst (pa_cons pe_str pa_nil)) (pa_cons (pe_tup (pa_cons (pv 1) pa_nil)) (pa_cons (pe_callTy (Lx.call_listS rfl) (by rfl) T.n_list (by decide +kernel) (pa_cons (pv 1) pa_nil)) (pa_cons (pe_callTy (Lx.call_tupS rfl) (by rfl) T.n_tuple (by decide +kernel) (pa_cons (pv 2) pa_nil)) pa_nil))))))))))))))))
        (pss_one (ps_ret (pe_op op_addU (pv 4) (pe_lst (pa_cons (pe_ix ix_seq (pv 5) (pe_call (ok_law_draw T) (hr.mono (by decide)) (by rfl) T.g_law_draw T.F_law_draw.kp T.b_law_draw .nil pass0 (pa_cons (pv 0) (pa_cons pe_int pa_nil))) (fun _ _ => rfl)) (pa_cons (pe_ix ix_seq (pv 5) (pe_call (ok_law_draw T) (hr.mono (by decide)) (by rfl) T.g_law_draw T.F_law_draw.kp T.b_law_draw .nil pass0 (pa_cons (pv 0) (pa_cons pe_int pa_nil))) (fun _ _ => rfl)) pa_nil)))))))))))))), ?_⟩
    have l1 : (Str.ofString "\t").length = 1 := by decide +kernel
    have l2 : (Str.ofString "\n").length = 1 := by decide +kernel
    have l3 : (Str.ofString "A").length = 1 := by decide +kernel
    have l4 : (Str.ofString "_").length = 1 := by decide +kernel
    have l5 : (Str.ofString " ").length = 1 := by decide +kernel
    have l6 : (Str.ofString "7").length = 1 := by decide +kernel
    have l7 : (Str.ofString "-").length = 1 := by decide +kernel
    walk_at "rd"
    refine ⟨a, 13, rfl, hs, by decide, fun d H1 d1 D1 => ?_⟩
    walk_at "rd"
    refine ⟨a, d, rfl, D1.st, by omega, fun nm H2 D2 nl => ?_⟩
    walk_at "rd"
    refine ⟨a, 15, rfl, D2.st, by decide, fun t H3 t1 D3 => ?_⟩
    walk_at "rd"
    refine ⟨a, t, rfl, D3.st, by omega, fun tx H4 D4 tl _ => ?_⟩
    walk_at "rd"
    refine r_lenS (by rw [sizeLine_eq]; omega) ?_
    walk_at "rd"
    refine ⟨a, _, rfl, D4.st, by omega, fun k H5 k1 D5 => ?_⟩
    have cl1 := cut_len nm none (some ((k : Nat) : Int))
    have cl2 := cut_len nm (some ((k : Nat) : Int)) none
    walk_at "cat"
    obtain ⟨xs1, e1, m1, s1⟩ : ∃ xs, xs = [V.str nm, V.str tx, V.str (cutS nm none (some ((k : Nat) : Int)) ++ Str.ofString "\t" ++ cutS nm (some ((k : Nat) : Int)) none), V.str (tx ++ Str.ofString "\t"), V.str (Str.ofString "\t" ++ tx ++ Str.ofString "\t"), V.str (nm ++ Str.ofString "\n"), V.str (Str.ofString "\n" ++ nm)] ∧ xs.length ≤ 30 ∧ ∀ v ∈ xs, Sh v := ⟨_, rfl, by show 7 ≤ 30; decide, by
      repeat (refine List.forall_mem_cons.mpr ⟨⟨_, rfl, by first | omega | (simp only [app_len]; omega)⟩, ?_⟩)
      exact fun _ h => nomatch h⟩
    rw [← e1]
    refine r_small (by omega) fun p1 f1 => ?_
    obtain ⟨G1, eG1, x1, g1⟩ := new1 f1 (.lst xs1)
    rw [← eG1]
    have D6 := ((((D1.trans D2).trans D3).trans D4).trans D5).then x1
    walk_at "cat"
    obtain ⟨xs2, e2, m2, s2⟩ : ∃ xs, xs = [V.str (cutS nm none (some ((k : Nat) : Int)) ++ Str.ofString "A" ++ cutS nm (some ((k : Nat) : Int)) none), V.str (cutS nm none (some ((k : Nat) : Int)) ++ Str.ofString "_" ++ cutS nm (some ((k : Nat) : Int)) none), V.str (nm ++ Str.ofString " "), V.str (Str.ofString " " ++ nm), V.str (Str.ofString "7" ++ nm)] ∧ xs.length ≤ 30 ∧ ∀ v ∈ xs, Sh v := ⟨_, rfl, by show 5 ≤ 30; decide, by
      repeat (refine List.forall_mem_cons.mpr ⟨⟨_, rfl, by first | omega | (simp only [app_len]; omega)⟩, ?_⟩)
      exact fun _ h => nomatch h⟩
    rw [← e2]
    refine r_small (by omega) fun p2 f2 => ?_
    obtain ⟨G2, eG2, x2, g2⟩ := new1 f2 (.lst xs2)
    rw [← eG2]
    have D7 := D6.then x2
    refine r_addSh (x2 _ _ g1) g2 (by omega) (by omega) s1 s2 fun p3 G3 xs3 m3 s3 x3 f3 g3 => ?_
    have D8 := D7.then x3
    walk_at "cat"
    refine ⟨a, 11, rfl, D8.st, by decide, fun o1 H6 D9 ol1 => ?_⟩
    walk_at "cat"
    refine ⟨a, 12, rfl, D9.st, by decide, fun o2 H7 D10 ol2 => ?_⟩
    have l8 : (Str.ofString "").length = 0 := by decide +kernel
    have l9 : (Str.ofString "a").length = 1 := by decide +kernel
    have l10 : (Str.ofString "0").length = 1 := by decide +kernel
    have l11 : (Str.ofString "Z").length = 1 := by decide +kernel
    walk_at "cat"
    obtain ⟨xs4, e4, m4, s4⟩ : ∃ xs, xs = [V.str (Str.ofString ""), V.str (Str.ofString "a"), V.str (Str.ofString "0"), V.str (Str.ofString "Z"), V.str o1, V.str o2, V.str (cutS nm none (some ((k : Nat) : Int)) ++ Str.ofString "-" ++ cutS nm (some ((k : Nat) : Int)) none)] ∧ xs.length ≤ 30 ∧ ∀ v ∈ xs, Sh v := ⟨_, rfl, by show 7 ≤ 30; decide, by
      repeat (refine List.forall_mem_cons.mpr ⟨⟨_, rfl, by first | omega | (simp only [app_len]; omega)⟩, ?_⟩)
      exact fun _ h => nomatch h⟩
    rw [← e4]
    refine r_small (by omega) fun p4 f4 => ?_
    obtain ⟨G4, eG4, x4, g4⟩ := new1 f4 (.lst xs4)
    rw [← eG4]
    have D11 := ((D8.trans D9).trans D10).then x4
    have na3 : ¬ (cell a).A p3 := (cell a).fresh D7.st f3
    refine r_addSh (x4 _ _ (D10.at na3 (D9.at na3 g3))) g4 (by omega) (by omega) s3 s4 fun p5 G5 xs5 m5 s5 x5 f5 g5 => ?_
    have D12 := D11.then x5
    have na5 : ¬ (cell a).A p5 := (cell a).fresh D11.st f5
    walk_at "cat"
    refine ⟨rfl, ?_⟩
    walk_at "cat"
    refine ⟨a, 95, rfl, D12.st, by decide, fun c H8 cl D13 => ?_⟩
    obtain ⟨c, _, _, hc⟩ := al_sign (d := c) (by omega)
    walk_at "cat"
    refine r_ixS (by rw [AL_len]; decide) hc ?_
    have l12 : (⟨#[c]⟩ : Str).length = 1 := rfl
    walk_at "cat"
    obtain ⟨xs6, e6, m6, s6⟩ : ∃ xs, xs = [V.str (cutS nm none (some ((k : Nat) : Int)) ++ ⟨#[c]⟩ ++ cutS nm (some ((k : Nat) : Int)) none)] ∧ xs.length ≤ 30 ∧ ∀ v ∈ xs, Sh v := ⟨_, rfl, by show 1 ≤ 30; decide, by
      repeat (refine List.forall_mem_cons.mpr ⟨⟨_, rfl, by first | omega | (simp only [app_len]; omega)⟩, ?_⟩)
      exact fun _ h => nomatch h⟩
    rw [← e6]
    refine r_small (by omega) fun p6 f6 => ?_
    obtain ⟨G6, eG6, x6, g6⟩ := new1 f6 (.lst xs6)
    rw [← eG6]
    have D14 := (D12.trans D13).then x6
    refine r_addSh (x6 _ _ (D13.at na5 g5)) g6 (by omega) (by omega) s5 s6 fun p7 G7 xs7 m7 s7 x7 f7 g7 => ?_
    have D15 := D14.then x7
    have na7 : ¬ (cell a).A p7 := (cell a).fresh D14.st f7
    walk_at "cat"
    refine r_small nsz fun t0 f0 => ?_
    obtain ⟨J0, eJ0, y0, h0⟩ := new1 f0 (.tup [])
    rw [← eJ0]
    walk_at "cat"
    refine r_small nsz fun t1' f1' => ?_
    obtain ⟨J1, eJ1, y1, h1⟩ := new1 f1' (.lst [])
    rw [← eJ1]
    walk_at "cat"
    refine fun t2 f2' => ?_
    obtain ⟨J2, eJ2, y2, h2⟩ := new1 f2' (.dK [])
    rw [← eJ2]
    walk_at "cat"
    refine r_small nsz fun t3 f3' => ?_
    obtain ⟨J3, eJ3, y3, h3⟩ := new1 f3' (.tup [.str "a"])
    rw [← eJ3]
    walk_at "cat"
    refine r_small nsz fun t4 f4' => ?_
    obtain ⟨J4, eJ4, y4, h4⟩ := new1 f4' (.lst [.str "a"])
    rw [← eJ4]
    walk_at "cat"
    refine r_small nsz fun t5 f5' => ?_
    obtain ⟨J5, eJ5, y5, h5⟩ := new1 f5' (.tup [.str nm])
    rw [← eJ5]
    walk_at "cat"
    refine Lx.r_listS (by rw [sizeLine_eq]; omega) fun t6 f6' => ?_
    obtain ⟨J6, eJ6, y6, h6⟩ := new1 f6' (.lst (Zp.sgs nm))
    rw [← eJ6]
    walk_at "cat"
    refine Lx.r_tupS (by rw [sizeLine_eq]; omega) fun t7 f7' => ?_
    obtain ⟨J7, eJ7, y7, h7⟩ := new1 f7' (.tup (Zp.sgs tx))
    rw [← eJ7]
    walk_at "cat"
    have od : ∀ v ∈ [V.non, .bl true, .bl false, .int 0, .int 7, .int (-1), .ref t0, .ref t1', .ref t2, .ref t3, .ref t4, .ref t5, .ref t6, .ref t7], Od J7 v := by
      refine List.forall_mem_cons.mpr ⟨.non, List.forall_mem_cons.mpr ⟨.bl _, List.forall_mem_cons.mpr ⟨.bl _, List.forall_mem_cons.mpr ⟨.int _, List.forall_mem_cons.mpr ⟨.int _, List.forall_mem_cons.mpr ⟨.int _, ?_⟩⟩⟩⟩⟩⟩
      refine List.forall_mem_cons.mpr ⟨.tup (y7 _ _ (y6 _ _ (y5 _ _ (y4 _ _ (y3 _ _ (y2 _ _ (y1 _ _ h0))))))), List.forall_mem_cons.mpr ⟨.lst (y7 _ _ (y6 _ _ (y5 _ _ (y4 _ _ (y3 _ _ (y2 _ _ h1)))))), List.forall_mem_cons.mpr ⟨.dct (y7 _ _ (y6 _ _ (y5 _ _ (y4 _ _ (y3 _ _ h2))))), ?_⟩⟩⟩
      exact List.forall_mem_cons.mpr ⟨.tup (y7 _ _ (y6 _ _ (y5 _ _ (y4 _ _ h3)))), List.forall_mem_cons.mpr ⟨.lst (y7 _ _ (y6 _ _ (y5 _ _ h4))), List.forall_mem_cons.mpr ⟨.tup (y7 _ _ (y6 _ _ h5)), List.forall_mem_cons.mpr ⟨.lst (y7 _ _ h6), List.forall_mem_cons.mpr ⟨.tup h7, fun _ h => nomatch h⟩⟩⟩⟩⟩
    have fa : ∀ {t : Addr}, G7 t = none → t ≠ a := fun h => (cell a).fresh D15.st h
    have ne : ∀ v ∈ [V.non, .bl true, .bl false, .int 0, .int 7, .int (-1), .ref t0, .ref t1', .ref t2, .ref t3, .ref t4, .ref t5, .ref t6, .ref t7], ∀ p, v = V.ref p → p ≠ a := by
      have z1 := y0
      have z2 := z1.trans y1
      have z3 := z2.trans y2
      have z4 := z3.trans y3
      have z5 := z4.trans y4
      have z6 := z5.trans y5
      have z7 := z6.trans y6
      intro v hv p e
      subst e
      simp only [List.mem_cons, List.not_mem_nil, or_false, V.ref.injEq, reduceCtorEq, false_or] at hv
      rcases hv with rfl | rfl | rfl | rfl | rfl | rfl | rfl | rfl
      · exact fa f0
      · exact fa (z1.free f1')
      · exact fa (z2.free f2')
      · exact fa (z3.free f3')
      · exact fa (z4.free f4')
      · exact fa (z5.free f5')
      · exact fa (z6.free f6')
      · exact fa (z7.free f7')
    obtain ⟨xo, eo, lo, so, no⟩ : ∃ xs, xs = [V.non, .bl true, .bl false, .int 0, .int 7, .int (-1), .ref t0, .ref t1', .ref t2, .ref t3, .ref t4, .ref t5, .ref t6, .ref t7] ∧ xs.length = 14 ∧ (∀ v ∈ xs, Od J7 v) ∧ ∀ v ∈ xs, ∀ p, v = V.ref p → p ≠ a := ⟨_, rfl, rfl, od, ne⟩
    rw [← eo]
    have yy := ((((((y0.trans y1).trans y2).trans y3).trans y4).trans y5).trans y6).trans y7
    have D16 := D15.then yy
    refine r_small (by omega) fun po fo => ?_
    obtain ⟨J8, eJ8, y8, h8⟩ := new1 fo (.lst xo)
    rw [← eJ8]
    have D17 := D16.then y8
    have nao : ¬ (cell a).A po := (cell a).fresh D16.st fo
    walk_at "cat"
    refine ⟨a, 14, rfl, D17.st, by decide, fun i1 H9 i1l D18 => ?_⟩
    have li1 : i1 < xo.length := by omega
    walk_at "cat"
    refine r_ixL (sqL (D18.at nao h8)) (atI_nat (List.getElem?_eq_getElem li1)) ?_
    walk_at "cat"
    refine ⟨a, 14, rfl, D18.st, by decide, fun i2 H10 i2l D19 => ?_⟩
    have li2 : i2 < xo.length := by omega
    walk_at "cat"
    refine r_ixL (sqL (D19.at nao (D18.at nao h8))) (atI_nat (List.getElem?_eq_getElem li2)) ?_
    walk_at "cat"
    refine r_small nsz fun pl fl => ?_
    have D20 := (D17.trans D18).trans D19
    have hl := D19.at na7 (D18.at na7 (y8 _ _ (yy _ _ g7)))
    obtain ⟨J9, eJ9, y9, h9⟩ := new1 fl (.lst [xo[i1], xo[i2]])
    rw [← eJ9]
    refine r_addL (y9 _ _ hl) h9 (by rw [sizeLine_eq]; show xs7.length + 2 ≤ _; omega) fun p9 f9 => ?_
    have D21 := (D16.then y8).trans (((D18.trans D19).then y9).new (o := .lst (xs7 ++ [xo[i1], xo[i2]])) f9)
    refine q p9 _ _ D21 upd_same fun v hv => ?_
    have up : ∀ {v}, Od J7 v → (∀ p, v = V.ref p → p ≠ a) → Od (upd J9 p9 (.lst (xs7 ++ [xo[i1], xo[i2]]))) v := fun {v} h n => by
      have D22 : Drw (cell a) J7 (upd J9 p9 (.lst (xs7 ++ [xo[i1], xo[i2]]))) := ((((Drw.refl D16.st).then y8).trans D18).trans D19).then (y9.trans (Same.new (Same.refl _) f9))
      cases h with
      | non => exact .non
      | bl b => exact .bl b
      | int i => exact .int i
      | tup h => exact .tup (D22.at (n _ rfl) h)
      | lst h => exact .lst (D22.at (n _ rfl) h)
      | dct h => exact .dct (D22.at (n _ rfl) h)
    rcases List.mem_append.mp hv with h | h
    · obtain ⟨z, rfl, hz⟩ := s7 v h
      exact ⟨some z, rfl, by omega⟩
    · simp only [List.mem_cons, List.not_mem_nil, or_false] at h
      rcases h with rfl | rfl
      · exact ⟨none, up (so _ (List.getElem_mem li1)) (no _ (List.getElem_mem li1))⟩
      · exact ⟨none, up (so _ (List.getElem_mem li2)) (no _ (List.getElem_mem li2))⟩
end
end K17

namespace K17
open PySem PySem.Spec PyProof.Rows L2 Dk Q48
/-- one step of a reading -/
local macro_rules | `(tactic| walk_at "rd1") => `(tactic| first
  | ((with_reducible refine r_var (v := ?rv) ?rh ?_); (case rh => rfl))
  | with_reducible refine r_c ?_
  | with_reducible refine r_seq ?_
  | with_reducible refine r_asg ?_
  | with_reducible refine r_par ?_
  | with_reducible refine r_gname ?_
  | with_reducible refine r_op ?_
  | with_reducible refine r_forLo ?_
  | with_reducible refine r_forTo ?_
  | with_reducible refine r_forSo ?_
  | with_reducible refine r_forRo ?_
  | with_reducible refine r_forRvo ?_
  | with_reducible refine r_forZo ?_
  | with_reducible refine r_revS ?_
  | with_reducible refine r_lcRo ?_
  | with_reducible refine r_lcLo ?_
  | with_reducible refine r_yes ?_
  | with_reducible refine r_callK0 ?_
  | with_reducible refine r_break ?_
  | with_reducible refine r_continue ?_
  | with_reducible refine r_forR2o ?_
  | with_reducible refine r_forEo ?_
  | with_reducible refine r_forESo ?_
  | with_reducible refine r_xfo ?_
  | with_reducible refine r_noP ?_
  | with_reducible refine r_part ?_
  | with_reducible refine r_pI ?_
  | with_reducible refine r_gcons ?_
  | with_reducible refine r_gnil ?_
  | with_reducible refine r_mkO ?_
  | with_reducible refine r_un ?_
  | with_reducible refine r_addI ?_
  | with_reducible refine r_I0 ?_
  | with_reducible refine r_U ?_
  | with_reducible refine r_cons ?_
  | with_reducible refine r_nil ?_
  | with_reducible refine r_CB ?_
  | with_reducible refine r_call ?_
  | with_reducible refine r_callS ?_
  | with_reducible refine r_int ?_
  | with_reducible refine r_max ?_
  | with_reducible refine r_min ?_
  | with_reducible refine r_test ?_
  | with_reducible refine r_B ?_
  | with_reducible refine r_blv ?_
  | with_reducible refine r_and ?_
  | with_reducible refine r_or ?_
  | with_reducible refine r_not ?_
  | with_reducible refine r_andV ?_
  | with_reducible refine r_orV ?_
  | with_reducible refine r_notV ?_
  | with_reducible refine r_ifE ?_
  | with_reducible refine r_ifS ?_
  | with_reducible refine r_ret ?_
  | with_reducible refine r_retN ?_
  | with_reducible refine r_drop ?_
  | with_reducible refine r_next ?_
  | with_reducible refine r_sl ?_
  | with_reducible refine r_gsub ?_
  | with_reducible refine r_bm ?_
  | with_reducible refine r_bm0 ?_
  | with_reducible refine r_tup ?_
  | with_reducible refine r_lst ?_
  | with_reducible refine r_isN ?_
  | with_reducible refine r_notN ?_
  | with_reducible refine r_chain ?_
  | with_reducible refine r_callK ?_
  | with_reducible refine r_isB ?_
  | with_reducible refine r_lcEio ?_
  | with_reducible refine r_forEi ?_
  | with_reducible refine r_lcTo ?_
  | with_reducible refine r_lcSo ?_
  | with_reducible refine r_m1 ?_
  | with_reducible refine r_dget ?_
  | with_reducible refine r_din ?_
  | with_reducible refine r_dnotin ?_
  | with_reducible refine r_starC ?_
  | with_reducible refine r_callKS ?_
  | with_reducible refine r_itt ?_
  | with_reducible refine r_iff ?_
  | with_reducible refine r_ittN ?_
  | with_reducible refine r_iffN ?_
  | ((with_reducible refine r_ittD ?rh ?_); (case rh => rfl))
  | ((with_reducible refine r_iffD ?rh ?_); (case rh => rfl))
  | ((with_reducible refine r_modP ?rh ?_); (case rh => decide))
  | ((with_reducible refine r_eq ?rh ?_); (case rh => rfl))
  | ((with_reducible refine r_eqP ?rh ?_); (case rh => rfl))
  | ((with_reducible refine r_ne ?rh ?_); (case rh => rfl)))
local macro_rules | `(tactic| walk_at "rd") => `(tactic| repeat walk_at "rd1")
local macro_rules | `(tactic| walk_at "isi") => `(tactic| first | refine r_isi (b := true) (by assumption) (by decide +kernel) ?_ | refine r_isi (b := false) (by assumption) (by decide +kernel) ?_)
local macro_rules | `(tactic| walk_at "rs1") => `(tactic| first
  | with_reducible refine r_seq ?_
  | with_reducible refine r_asg ?_
  | with_reducible refine r_gname ?_
  | with_reducible refine r_ret ?_)
local macro_rules | `(tactic| walk_at "rs") => `(tactic| repeat walk_at "rs1")

def NL : Str := ⟨#[10]⟩
/-- the rows of a text -/
def rows (z : Str) : List (List Nat) := (PySem.Txt.split z NL).map cs
theorem jn_cs : ∀ (l : List Str), l ≠ [] → jn10 (l.map cs) = cs (PySem.Str.join NL l)
  | [a], _ => rfl
  | a :: b :: l, _ => by
    have ih := jn_cs (b :: l) (by simp)
    show cs a ++ 10 :: jn10 ((b :: l).map cs) = cs (a ++ NL ++ PySem.Str.join NL (b :: l))
    rw [cs_app, cs_app, ih, List.append_assoc]
    rfl
theorem rows_eq (z : Str) : jn10 (rows z) = cs z := by
  have h := PySem.StrLaws.join_split z NL
  unfold rows
  rw [jn_cs _ (fun e => by
    have := PyProof.Rows.split_pos z NL
    rw [e] at this
    exact absurd this (by decide)), h]
theorem rows_ne (z : Str) : rows z ≠ [] := fun h => by
  have := PyProof.Rows.split_pos z NL
  rw [← List.length_map (f := cs)] at this
  rw [show (PySem.Txt.split z NL).map cs = [] from h] at this
  simp at this
theorem rows_free (z : Str) : ∀ r ∈ rows z, 10 ∉ r := fun r hr => by
  obtain ⟨p, hp, rfl⟩ := List.mem_map.mp hr
  exact PySem.StrLaws.split_free z 10 p hp
/-- how often one sign stands ahead of a place -/
theorem occ1 (z : Str) (c hi limit : Nat) : ∀ (l : List Nat) (st : Array Nat × Nat), l.Pairwise (· < ·) → (∀ i ∈ l, st.2 ≤ i) → st.1.size + l.length ≤ limit →
    (forIn l st (PySem.StrLaws.occBody z ⟨#[c]⟩ hi limit)).run.fst.size = st.1.size + (l.filter fun i => decide (i < hi) && decide ((cs z)[i]? = some c)).length
  | [], st, _, _, _ => rfl
  | a :: l, st, pw, lo, hl => by
    obtain ⟨p1, p2⟩ := List.pairwise_cons.mp pw
    have h0 := lo a (List.mem_cons_self ..)
    rw [List.length_cons] at hl
    rw [List.forIn_cons]
    unfold PySem.StrLaws.occBody
    have e1 : (a + (⟨#[c]⟩ : Str).length ≤ hi) ↔ a < hi := by
      show a + 1 ≤ hi ↔ _
      omega
    have e2 : (Builtin.Str.subAt z ⟨#[c]⟩ a = true) ↔ (cs z)[a]? = some c := by rw [subAt1, decide_eq_true_iff]
    by_cases h : a < hi ∧ (cs z)[a]? = some c
    · rw [if_pos ⟨⟨⟨by omega, h0⟩, e1.mpr h.1⟩, e2.mpr h.2⟩]
      have ih := occ1 z c hi limit l (st.1.push a, a + 1) p2 (fun i hi => p1 i hi) (by show (st.1.push a).size + _ ≤ _; rw [Array.size_push]; omega)
      rw [List.filter_cons_of_pos (by rw [decide_eq_true h.1, decide_eq_true h.2]; rfl), List.length_cons]
      refine Eq.trans ih ?_
      show (st.1.push a).size + _ = _
      rw [Array.size_push]
      omega
    · rw [if_neg (fun g => h ⟨e1.mp g.1.2, e2.mp g.2⟩)]
      have ih := occ1 z c hi limit l st p2 (fun i hi => Nat.le_trans (lo a (List.mem_cons_self ..)) (Nat.le_of_lt (p1 i hi))) (by omega)
      rw [List.filter_cons_of_neg (fun g => h (by
        rw [Bool.and_eq_true, decide_eq_true_iff, decide_eq_true_iff] at g
        exact g))]
      exact ih
theorem range_count (l : List Nat) (c : Nat) : ∀ b, b ≤ l.length → ((List.range' 0 b).filter fun i => decide (l[i]? = some c)).length = ((l.take b).filter fun x => decide (x = c)).length
  | 0, _ => by rw [List.take_zero]; rfl
  | b + 1, hb => by
    have ih := range_count l c b (by omega)
    obtain ⟨x, hx⟩ : ∃ x, l[b]? = some x := ⟨_, List.getElem?_eq_getElem (by omega)⟩
    rw [List.range'_concat, List.filter_append, List.length_append, ih, List.take_add_one, hx, List.filter_append, List.length_append]
    congr 1
    simp only [Nat.zero_add, Nat.one_mul]
    by_cases e : x = c
    · subst e
      rw [List.filter_cons_of_pos (by rw [hx]; exact decide_eq_true rfl)]
      simp
    · rw [List.filter_cons_of_neg (by rw [hx]; simp [e])]
      simp [e]
theorem count1 (z : Str) (b : Nat) (hb : b ≤ z.length) : Txt.countIn z NL 0 (b : Nat) = (ln (cs z) b : Nat) := by
  have e1 : fromIndex z.length (0 : Int) = 0 := by
    unfold fromIndex
    rfl
  have e2 : toIndexW z.length (b : Int) = b := by
    unfold toIndexW
    rw [if_neg (by omega)]
    omega
  unfold Txt.countIn
  rw [e1, e2, PySem.StrLaws.occ_eq, Array.length_toList]
  have k := occ1 z 10 b (z.length + 1) (List.range' 0 (b + 1 - 0)) (#[], 0) (by first | exact List.pairwise_lt_range' | simpa using List.pairwise_lt_range' (s := 0) (n := b + 1)) (fun i _ => Nat.zero_le _) (by rw [List.length_range']; show 0 + _ ≤ _; omega)
  rw [show (NL : Str) = ⟨#[10]⟩ from rfl, k]
  have e3 : ((List.range' 0 (b + 1 - 0)).filter fun i => decide (i < b) && decide ((cs z)[i]? = some 10)) = (List.range' 0 b).filter fun i => decide ((cs z)[i]? = some 10) := by
    rw [Nat.sub_zero, List.range'_concat, List.filter_append]
    have : List.filter (fun i => decide (i < b) && decide ((cs z)[i]? = some 10)) [0 + 1 * b] = [] := by
      rw [List.filter_cons_of_neg (by simp)]
      rfl
    rw [this, List.append_nil]
    refine List.filter_congr fun i hi => ?_
    have := (List.mem_range'_1.mp hi).2
    rw [decide_eq_true (by omega : i < b)]
    rfl
  rw [e3, range_count (cs z) 10 b (by rw [cs_len]; exact hb)]
  show ((0 + _ : Nat) : Int) = _
  rw [Nat.zero_add]
  rfl
theorem row_cut : ∀ {R : List (List Nat)} {j : Nat} {r : List Nat}, R[j]? = some r → ((jn10 R).drop (beg R j)).take r.length = r
  | [q], 0, r, h => by
    obtain rfl : q = r := Option.some.inj h
    rw [beg_zero, List.drop_zero]
    exact List.take_length
  | [q], j + 1, r, h => by cases h
  | q :: q2 :: rs, 0, r, h => by
    obtain rfl : q = r := Option.some.inj h
    rw [beg_zero, List.drop_zero]
    show (q ++ 10 :: jn10 (q2 :: rs)).take q.length = q
    rw [List.take_append_of_le_length (Nat.le_refl _), List.take_length]
  | q :: q2 :: rs, j + 1, r, h => by
    have ih := row_cut (R := q2 :: rs) (j := j) (r := r) h
    rw [beg_cons]
    show ((q ++ 10 :: jn10 (q2 :: rs)).drop (q.length + 1 + beg (q2 :: rs) j)).take r.length = r
    rw [show q.length + 1 + beg (q2 :: rs) j = q.length + (beg (q2 :: rs) j + 1) by omega, ← List.drop_drop, List.drop_left, List.drop_succ_cons]
    exact ih
/-- the line of a place, its begin, the column -/
def li (z : Str) (k : Nat) : Nat := ln (cs z) k
def bg (z : Str) (j : Nat) : Nat := beg (rows z) j
def wd (z : Str) (j : Nat) : Nat := ((rows z).getD j []).length
def co (z : Str) (k : Nat) : Nat := k - bg z (li z k)
theorem place_facts {z : Str} {k : Nat} (h : k ≤ z.length) : li z k < (rows z).length ∧ bg z (li z k) ≤ k ∧ k ≤ bg z (li z k) + wd z (li z k) ∧ (∀ i, bg z (li z k) ≤ i → i < k → (cs z)[i]? ≠ some 10) ∧ (0 < li z k → 0 < bg z (li z k) ∧ (cs z)[bg z (li z k) - 1]? = some 10) := by
  obtain ⟨j, r, h1, h2, h3, h4, h5, h6⟩ := row_at (rows_ne z) (rows_free z) k (by rw [rows_eq, cs_len]; exact h)
  rw [rows_eq] at h4 h5 h6
  have e : li z k = j := h4
  have w : wd z j = r.length := by
    unfold wd
    rw [List.getD_eq_getElem?_getD, h1]
    rfl
  rw [e, w]
  exact ⟨(List.getElem?_eq_some_iff.mp h1).1, h2, h3, h5, h6⟩
theorem bg_zero (z : Str) : bg z 0 = 0 := rfl
/-- the last feed ahead of a place -/
theorem rfind_row {z : Str} {k : Nat} (h : k ≤ z.length) : Txt.rfindIn z NL 0 (k : Nat) + 1 = (bg z (li z k) : Nat) := by
  obtain ⟨h1, h2, h3, h4, h5⟩ := place_facts h
  have h0 : Txt.rfindIn z NL 0 (k : Nat) = Txt.rfindIn z ⟨#[10]⟩ ((0 : Nat) : Int) (k : Nat) := rfl
  rw [h0]
  rcases rfind1 z 10 0 k h with ⟨g1, g2⟩ | ⟨j, g1, g2, g3, g4, g5⟩
  · rw [g1]
    rcases Nat.eq_zero_or_pos (li z k) with y | y
    · rw [y, bg_zero]; rfl
    · obtain ⟨y1, y2⟩ := h5 y
      exact absurd y2 (g2 _ (Nat.zero_le _) (by omega))
  · rw [g1]
    have : j + 1 = bg z (li z k) := by
      rcases Nat.lt_trichotomy (j + 1) (bg z (li z k)) with y | y | y
      · rcases Nat.eq_zero_or_pos (li z k) with w | w
        · rw [w, bg_zero] at y; omega
        · exact absurd (h5 w).2 (g5 _ (by omega) (by omega))
      · exact y
      · exact absurd g4 (h4 j (by omega) g3)
    omega
theorem feeds_all (z : Str) : Txt.count z NL + 1 = ((rows z).length : Nat) := by
  have h1 := PyProof.Rows.count_cnt z 10
  have h2 := PyProof.Rows.split_len z 10
  unfold rows
  rw [List.length_map]
  show Txt.count z ⟨#[10]⟩ + 1 = ((PySem.Txt.split z ⟨#[10]⟩).length : Nat)
  rw [h1, h2]
  omega
/-- the row's text -/
theorem row_text {z : Str} {j : Nat} {r : Str} (h : (PySem.Txt.split z NL)[j]? = some r) : cutS z (some ((bg z j : Nat) : Int)) (some ((bg z j + wd z j : Nat) : Int)) = r ∧ r.length = wd z j := by
  have hr : (rows z)[j]? = some (cs r) := by unfold rows; rw [List.getElem?_map, h]; rfl
  have hw : wd z j = r.length := by
    unfold wd
    rw [List.getD_eq_getElem?_getD, hr]
    exact cs_len r
  refine ⟨cs_ext ?_, hw.symm⟩
  have k := row_cut hr
  rw [rows_eq, cs_len] at k
  rw [cs_cut, Nat.add_sub_cancel_left, hw]
  exact k
theorem rl_len (z : Str) : (rows z).length = (PySem.Txt.split z NL).length := by unfold rows; rw [List.length_map]
end K17

namespace K17
open PySem PySem.Spec PyProof.Rows L2 Dk Q48
/-- one step of a reading -/
local macro_rules | `(tactic| walk_at "rd1") => `(tactic| first
  | ((with_reducible refine r_var (v := ?rv) ?rh ?_); (case rh => rfl))
  | with_reducible refine r_c ?_
  | with_reducible refine r_seq ?_
  | with_reducible refine r_asg ?_
  | with_reducible refine r_par ?_
  | with_reducible refine r_gname ?_
  | with_reducible refine r_op ?_
  | with_reducible refine r_forLo ?_
  | with_reducible refine r_forTo ?_
  | with_reducible refine r_forSo ?_
  | with_reducible refine r_forRo ?_
  | with_reducible refine r_forRvo ?_
  | with_reducible refine r_forZo ?_
  | with_reducible refine r_revS ?_
  | with_reducible refine r_lcRo ?_
  | with_reducible refine r_lcLo ?_
  | with_reducible refine r_yes ?_
  | with_reducible refine r_callK0 ?_
  | with_reducible refine r_break ?_
  | with_reducible refine r_continue ?_
  | with_reducible refine r_forR2o ?_
  | with_reducible refine r_forEo ?_
  | with_reducible refine r_forESo ?_
  | with_reducible refine r_xfo ?_
  | with_reducible refine r_noP ?_
  | with_reducible refine r_part ?_
  | with_reducible refine r_pI ?_
  | with_reducible refine r_gcons ?_
  | with_reducible refine r_gnil ?_
  | with_reducible refine r_mkO ?_
  | with_reducible refine r_un ?_
  | with_reducible refine r_addI ?_
  | with_reducible refine r_I0 ?_
  | with_reducible refine r_U ?_
  | with_reducible refine r_cons ?_
  | with_reducible refine r_nil ?_
  | with_reducible refine r_CB ?_
  | with_reducible refine r_call ?_
  | with_reducible refine r_callS ?_
  | with_reducible refine r_int ?_
  | with_reducible refine r_max ?_
  | with_reducible refine r_min ?_
  | with_reducible refine r_test ?_
  | with_reducible refine r_B ?_
  | with_reducible refine r_blv ?_
  | with_reducible refine r_and ?_
  | with_reducible refine r_or ?_
  | with_reducible refine r_not ?_
  | with_reducible refine r_andV ?_
  | with_reducible refine r_orV ?_
  | with_reducible refine r_notV ?_
  | with_reducible refine r_ifE ?_
  | with_reducible refine r_ifS ?_
  | with_reducible refine r_ret ?_
  | with_reducible refine r_retN ?_
  | with_reducible refine r_drop ?_
  | with_reducible refine r_next ?_
  | with_reducible refine r_sl ?_
  | with_reducible refine r_gsub ?_
  | with_reducible refine r_bm ?_
  | with_reducible refine r_bm0 ?_
  | with_reducible refine r_tup ?_
  | with_reducible refine r_lst ?_
  | with_reducible refine r_isN ?_
  | with_reducible refine r_notN ?_
  | with_reducible refine r_chain ?_
  | with_reducible refine r_callK ?_
  | with_reducible refine r_isB ?_
  | with_reducible refine r_lcEio ?_
  | with_reducible refine r_forEi ?_
  | with_reducible refine r_lcTo ?_
  | with_reducible refine r_lcSo ?_
  | with_reducible refine r_m1 ?_
  | with_reducible refine r_dget ?_
  | with_reducible refine r_din ?_
  | with_reducible refine r_dnotin ?_
  | with_reducible refine r_starC ?_
  | with_reducible refine r_callKS ?_
  | with_reducible refine r_itt ?_
  | with_reducible refine r_iff ?_
  | with_reducible refine r_ittN ?_
  | with_reducible refine r_iffN ?_
  | ((with_reducible refine r_ittD ?rh ?_); (case rh => rfl))
  | ((with_reducible refine r_iffD ?rh ?_); (case rh => rfl))
  | ((with_reducible refine r_modP ?rh ?_); (case rh => decide))
  | ((with_reducible refine r_eq ?rh ?_); (case rh => rfl))
  | ((with_reducible refine r_eqP ?rh ?_); (case rh => rfl))
  | ((with_reducible refine r_ne ?rh ?_); (case rh => rfl)))
local macro_rules | `(tactic| walk_at "rd") => `(tactic| repeat walk_at "rd1")
local macro_rules | `(tactic| walk_at "isi") => `(tactic| first | refine r_isi (b := true) (by assumption) (by decide +kernel) ?_ | refine r_isi (b := false) (by assumption) (by decide +kernel) ?_)
local macro_rules | `(tactic| walk_at "rs1") => `(tactic| first
  | with_reducible refine r_seq ?_
  | with_reducible refine r_asg ?_
  | with_reducible refine r_gname ?_
  | with_reducible refine r_ret ?_)
local macro_rules | `(tactic| walk_at "rs") => `(tactic| repeat walk_at "rs1")

/-- the rows as texts -/
abbrev rw' (z : Str) : List Str := PySem.Txt.split z NL
def spRows : Sp := fun vs H Q _ => ∃ z : Str, vs = [.str z] ∧ z.length ≤ 6000 ∧ ∀ p H', Ex H H' → H' p = some (.tup ((rw' z).map V.str)) → Q (.ref p) H'
def spJoined : Sp := fun vs H Q _ => ∃ (p : Addr) (ys : List Str), vs = [.ref p] ∧ H p = some (.tup (ys.map V.str)) ∧ (ys.map (·.length)).sum + ys.length * 1 ≤ 16777216 ∧ Q (.str (Txt.join NL ys)) H
def spSpot (C : Addr) : Sp := fun vs H Q E => ∃ (z : Str) (k : Nat), vs = [.str z, .int (k : Nat)] ∧ z.length ≤ 6000 ∧ (k ≤ z.length → ∀ v H', Ex H H' → PrV H' v ((li z k : Nat), (co z k : Nat)) → Q v H') ∧ (z.length < k → ∀ H' d, Ex H H' → H d = none → H' d = some (xAt (k : Nat)) → E (.ref C) (some d) H')
def spRow (C : Addr) : Sp := fun vs H Q E => ∃ (z : Str) (j : Nat), vs = [.str z, .int (j : Nat)] ∧ z.length ≤ 6000 ∧ (j < (rows z).length → ∀ v H', Ex H H' → PrV H' v ((bg z j : Nat), ((bg z j + wd z j : Nat) : Int)) → Q v H') ∧
  ((rows z).length ≤ j → ∀ H' d, Ex H H' → H d = none → H' d = some (xAt (j : Nat)) → E (.ref C) (some d) H')
def spRowH (C : Addr) : Sp := fun vs H Q E => ∃ (z : Str) (j : Nat), vs = [.str z, .int (j : Nat)] ∧ z.length ≤ 6000 ∧ (rows z).length ≤ j ∧ ∀ H' d, Ex H H' → H d = none → H' d = some (xAt (j : Nat)) → E (.ref C) (some d) H'
def spPlace (C : Addr) : Sp := fun vs H Q E => ∃ (z : Str) (j c : Nat), vs = [.str z, .int (j : Nat), .int (c : Nat)] ∧ z.length ≤ 6000 ∧ (j < (rows z).length → ∀ H', Ex H H' → Q (.int ((bg z j + min c (wd z j) : Nat) : Int)) H') ∧
  ((rows z).length ≤ j → ∀ H' d, Ex H H' → H d = none → H' d = some (xAt (j : Nat)) → E (.ref C) (some d) H')
theorem nl_str : Str.ofString "\n" = NL := by decide +kernel
section
variable {P : Program} {w : World} {K : PySem.W.Frag} {mg : Str → Option Value} {base : Heap}
theorem ok_rows_of (T : Txt K mg) : FnOk P w K mg base CX0 1 T.a_rows_of T.d_rows_of ["text"] spRows := by
  refine T.F_rows_of.ok sc_rows_of (fun vs H Q E h => ?_) (fun cdv A outer s H vs Q E hr h => ?_)
  · obtain ⟨z, rfl, _⟩ := h
    rfl
  · obtain ⟨z, rfl, hz, q⟩ := h
    refine ⟨_, (pss_one (ps_ret (pe_callTy call_tupU (by rfl) T.n_tuple (by decide +kernel) (pa_cons (pe_bm PySem.F.plainAttrs_str PySem.F.slot_str_split PySem.F.type_str_split mt_split (pv 0) (pa_cons pe_str pa_nil)) pa_nil)))), ?_⟩
    walk_at "rd"
    refine r_tyS ?_
    walk_at "rd"
    rw [nl_str]
    refine ⟨z, _, rfl, rfl, by decide, by rw [sizeLine_eq]; omega, fun R hR => ?_⟩
    have eR : Ex H (upd H R (.lst ((PySem.Txt.split z NL).map V.str))) := Same.new (Same.refl _) hR
    walk_at "rd"
    exact r_tupL (sqL upd_same) fun l hl => q l _ (eR.trans (Same.new (Same.refl _) hl)) upd_same
theorem ok_joined (T : Txt K mg) : FnOk P w K mg base CX0 1 T.a_joined T.d_joined ["rows"] spJoined := by
  refine T.F_joined.ok sc_joined (fun vs H Q E h => ?_) (fun cdv A outer s H vs Q E hr h => ?_)
  · obtain ⟨p, ys, rfl, _⟩ := h
    rfl
  · obtain ⟨p, ys, rfl, hp, hl, q⟩ := h
    refine ⟨_, (pss_one (ps_ret (pe_join pe_str (pv 0)))), ?_⟩
    walk_at "rd"
    refine ⟨⟨_, rfl⟩, ?_⟩
    walk_at "rd"
    rw [nl_str]
    exact ⟨NL, p, ys, rfl, rfl, .inr (sqT hp), hl, q⟩
theorem ok_spot_of (T : Txt K mg) : FnOk P w K mg base (L2.CX P w) 3 T.a_spot_of T.d_spot_of ["text", "place"] (spSpot T.c_BadPlace) := by
  refine T.F_spot_of.okX sc_spot_of (fun vs H Q E h => ?_) (fun cdv A outer s H vs Q E hr h => ?_)
  · obtain ⟨z, k, rfl, _⟩ := h
    rfl
  · obtain ⟨z, k, rfl, hz, q, qE⟩ := h
    refine ⟨_, (pss_cons (ps_if (pt_cmpR op_gt (pv 1) (pe_callB call_lenU (by rfl) T.n_len (by decide +kernel) (pa_cons (pv 0) pa_nil)) (nomark _)) (pss_one (ps_raise rfl (takes_of rfl rfl rfl rfl) (pmk_oex T.o_BadPlace T.i_BadPlace T.ti_BadPlace (ok_init_BadPlace T) hr T.b_BadPlace .nil pass0 (by rfl) T.g_BadPlace (pa_cons (pv 1) pa_nil)))) pss_nil)
        (pss_cons (ps_set (i := 2) sc_spot_of.nd rfl (Or.inl rfl) (pe_op op_addU (pe_bm PySem.F.plainAttrs_str PySem.F.slot_str_rfind PySem.F.type_str_rfind mt_rfind4 (pv 0) (pa_cons pe_str (pa_cons pe_int (pa_cons (pv 1) pa_nil)))) pe_int))
        (pss_one (ps_ret (pe_tup (pa_cons (pe_bm PySem.F.plainAttrs_str PySem.F.slot_str_count PySem.F.type_str_count mt_count4 (pv 0) (pa_cons pe_str (pa_cons pe_int (pa_cons (pv 1) pa_nil)))) (pa_cons (pe_op op_sub (pv 1) (pv 2)) pa_nil))))))), ?_⟩
    have zl : z.length ≤ sizeLine := by rw [sizeLine_eq]; omega
    walk_at "rd"
    refine r_lenS zl ?_
    walk_at "rd"
    refine r_ite (fun c => ?_) (fun c => ?_)
    · walk_at "rd"
      exact r_raise1 fun d hd => qE (by omega) _ d (Same.new (Same.refl _) hd) hd upd_same
    · have hk : k ≤ z.length := by omega
      have pf := place_facts hk
      walk_at "rd"
      refine r_tyS ?_
      walk_at "rd"
      refine ⟨z, _, 0, (k : Nat), rfl, rfl, ?_⟩
      rw [nl_str]
      walk_at "rd"
      rw [rfind_row hk]
      walk_at "rd"
      refine r_tyS ?_
      walk_at "rd"
      refine ⟨z, _, 0, (k : Nat), rfl, rfl, ?_⟩
      rw [count1 z k hk]
      walk_at "rd"
      rw [show ((k : Nat) : Int) - (bg z (li z k) : Nat) = (co z k : Nat) by unfold co; omega]
      exact r_mkPr fun p H2 hp e e2 hp2 => q hk _ _ e2 hp2
theorem ok_row_bounds (T : Txt K mg) : FnOk P w K mg base (L2N.CX P w) 3 T.a_row_bounds T.d_row_bounds ["text", "line"] (spRow T.c_BadPlace) := by
  refine Hn.okN T.F_row_bounds sc_row_bounds (fun vs H Q E h => ?_) (fun cdv A outer s H vs Q E hr h => ?_)
  · obtain ⟨z, k, rfl, _⟩ := h
    rfl
  · obtain ⟨z, j, rfl, hz, q, qE⟩ := h
    refine ⟨_, (pss_cons (ps_set (i := 2) sc_row_bounds.nd rfl (Or.inl rfl) (pe_bm PySem.F.plainAttrs_str PySem.F.slot_str_split PySem.F.type_str_split mt_split (pv 0) (pa_cons pe_str pa_nil)))
        (pss_cons (ps_if (pt_cmpR op_ge (pv 1) (pe_callB call_lenU (by rfl) T.n_len (by decide +kernel) (pa_cons (pv 2) pa_nil)) (nomark _)) (pss_one (L2N.ps_raise rfl (L2N.takes_of rfl rfl rfl rfl) (Hn.pmk_oexN T.o_BadPlace T.i_BadPlace T.ti_BadPlace (ok_init_BadPlace T) hr T.b_BadPlace pass0 (by rfl) T.g_BadPlace (pa_cons (pv 1) pa_nil)))) pss_nil)
        (pss_cons (ps_set (i := 3) sc_row_bounds.nd rfl (Or.inl rfl) (pe_callB (cr_sum rfl) (by rfl) T.n_sum (by decide +kernel) (pa_cons (pe_lc (own := [("row", 4)]) (g := gName 4) rfl sc_row_bounds.nd (pi_list (pe_slice sl_U (pv 2) po_none (po_some (pv 1)))) (blkOk_by (N := N_row_bounds) (sc := defScope s_row_bounds) (by decide +kernel)) (fun _ _ _ _ _ => pg_name (i := 4) sc_row_bounds.nd rfl (Or.inl rfl)) (fun _ _ _ _ _ => pts_nil) (fun _ _ _ _ _ => (pe_op (k_add (K := K) rfl) (pe_callB (k_len (K := K) rfl) (by rfl) T.n_len (by decide +kernel) (pa_cons (pv 4) pa_nil)) pe_int))) pa_nil)))
        (pss_one (ps_ret (pe_tup (pa_cons (pv 3) (pa_cons (pe_op op_addU (pv 3) (pe_callB call_lenU (by rfl) T.n_len (by decide +kernel) (pa_cons (pe_ix ix_seq (pv 2) (pv 1) (fun _ _ => rfl)) pa_nil))) pa_nil)))))))), ?_⟩
    have rl := rl_len z
    walk_at "rd"
    refine r_tyS ?_
    walk_at "rd"
    rw [nl_str]
    refine ⟨z, _, rfl, rfl, by decide, by rw [sizeLine_eq]; omega, fun R hR => ?_⟩
    have eR : Ex H (upd H R (.lst ((PySem.Txt.split z NL).map V.str))) := Same.new (Same.refl _) hR
    walk_at "rd"
    refine r_lenL (sqL upd_same) ?_
    rw [List.length_map]
    walk_at "rd"
    refine r_ite (fun c => ?_) (fun c => ?_)
    · walk_at "rd"
      exact r_raise1 fun d hd => qE (by omega) _ d (eR.trans (Same.new (Same.refl _) hd)) (eR.free hd) upd_same
    have hj : j < (rows z).length := by omega
    walk_at "rd"
    obtain ⟨L, hL⟩ : ∃ L, L = PySem.Txt.split z NL := ⟨_, rfl⟩
    rw [← hL]
    rw [← hL] at rl eR
    refine r_slL (sqL upd_same) fun t ht => ?_
    rw [cutV_to, ← List.map_take]
    have e2 : Ex (upd H R (.lst (L.map V.str))) (upd (upd H R (.lst (L.map V.str))) t (.lst ((L.take j).map V.str))) := Same.new (Same.refl _) ht
    have e02 := eR.trans e2
    have short : ∀ a ∈ L, a.length ≤ 6000 := fun a ha => by rw [hL] at ha; exact Nat.le_trans (PyProof.Rows.part_short ha) hz
    have ll : L.length ≤ 7000 := by have := PyProof.Rows.split_le z NL; rw [← hL] at this; omega
    refine l_lcL (sqL upd_same) (fun C i H2 => Ex (upd (upd H R (.lst (L.map V.str))) t (.lst ((L.take j).map V.str))) H2 ∧ H2 C = some (.lst ((((L.take j).take i).map fun r => ((r.length : Nat) : Int) + 1).map V.int))) (fun C hC => ⟨Same.new (Same.refl _) hC, upd_same⟩) (fun C i H2 hP => sqL (hP.1 _ _ upd_same)) (fun C i x H2 hC hx' hP => ?_) (fun C H2 hC hP => ?_)
    · obtain ⟨e, gC⟩ := hP
      rw [List.getElem?_map] at hx'
      obtain ⟨a, ha, rfl⟩ : ∃ a, (L.take j)[i]? = some a ∧ x = V.str a := by
        cases e : (L.take j)[i]? with
        | none => rw [e] at hx'; cases hx'
        | some a => rw [e] at hx'; exact ⟨a, rfl, (Option.some.inj hx').symm⟩
      have am := short a (List.mem_of_mem_take (List.mem_of_getElem? ha))
      walk_at "rd"
      refine ⟨rfl, ?_⟩
      walk_at "rd"
      refine r_lenS (by rw [sizeLine_eq]; omega) ?_
      walk_at "rd"
      refine ⟨_, gC, by rw [List.length_map, List.length_map, List.length_take, List.length_take]; exact Nat.lt_of_le_of_lt (show _ ≤ 7000 by omega) (by decide), Same.mut e hC, ?_⟩
      rw [upd_same, List.take_add_one, ha, List.map_append, List.map_append]
      rfl
    · obtain ⟨e, gC⟩ := hP
      rw [List.take_of_length_le (by rw [List.length_map]; exact Nat.le_refl _)] at gC
      walk_at "rd"
      refine ⟨C, _, rfl, sqL gC, ?_⟩
      have sum : ∀ (l : List Str), (l.map fun r => ((r.length : Nat) : Int) + 1).sum = (((l.map cs).map fun r => r.length + 1).sum : Nat) := by
        intro l
        induction l with
        | nil => rfl
        | cons a l ih =>
          rw [List.map_cons, List.sum_cons, ih, List.map_cons, List.map_cons, List.sum_cons, cs_len]
          omega
      have hb : ((L.take j).map fun r => ((r.length : Nat) : Int) + 1).sum = (bg z j : Nat) := by
        rw [sum]
        unfold bg beg rows
        rw [← hL, List.map_take]
      rw [hb]
      obtain ⟨r, hr'⟩ : ∃ r, L[j]? = some r := ⟨_, List.getElem?_eq_getElem (by omega)⟩
      have hw : r.length = wd z j := (row_text (z := z) (by rw [← hL]; exact hr')).2
      have hR2 : H2 R = some (.lst (L.map V.str)) := e _ _ (e2 _ _ upd_same)
      walk_at "rd"
      refine r_ixL (sqL hR2) (atI_nat (v := .str r) (by rw [List.getElem?_map, hr']; rfl)) ?_
      walk_at "rd"
      refine r_lenS (by have := short r (List.mem_of_getElem? hr'); rw [sizeLine_eq]; omega) ?_
      rw [hw]
      walk_at "rd"
      exact r_mkPr fun p H3 hp e3 e4 h3 => q hj _ _ (e02.trans (e.trans e4)) (by
        have : ((bg z j : Nat) : Int) + (wd z j : Nat) = ((bg z j + wd z j : Nat) : Int) := by omega
        rw [← this]
        exact h3)
theorem okHX_init_BadPlace (T : Txt K mg) : L2H.FnH P w K mg base CX0 1 T.ai_BadPlace T.d_BadPlace ["self", "at"] (spInit1 T.c_BadPlace "at") := by
  refine Hn.okHX T.F_BadPlace sc_init_BadPlace (fun vs H Q E h => ?_) (fun cdv A outer s H vs Q E p h1 h2 h => ?_)
  · obtain ⟨a, v, rfl, _⟩ := h
    rfl
  · obtain ⟨a, v, rfl, ha, q⟩ := h
    refine ⟨_, pss_one (ps_ost (pv 0) (pv 1)), ?_⟩
    exact ⟨v, rfl, .ref a, rfl, a, T.c_BadPlace, rfl, T.o_BadPlace, T.na_BadPlace_at, .inl ⟨ha, fun dx n1 n2 => q dx n1 n2⟩⟩
theorem okH_row_bounds (T : Txt K mg) : L2H.FnH P w K mg base (L2.CX P w) 3 T.a_row_bounds T.d_row_bounds ["text", "line"] (spRowH T.c_BadPlace) := by
  refine Hn.okHX T.F_row_bounds sc_row_bounds (fun vs H Q E h => ?_) (fun cdv A outer s H vs Q E p hot hr h => ?_)
  · obtain ⟨z, k, rfl, _⟩ := h
    rfl
  · obtain ⟨z, j, rfl, hz, hj, qE⟩ := h
    have hc : L2H.HotC (L2H.cxH (L2.CX P w) P w K mg base N_row_bounds "row_bounds" (defScope s_row_bounds) T.a_row_bounds cdv A outer s H E p) := ⟨p, hot, List.mem_cons_self ..⟩
    refine ⟨_, (pss_cons (ps_set (i := 2) sc_row_bounds.nd rfl (Or.inl rfl) (pe_bm PySem.F.plainAttrs_str PySem.F.slot_str_split PySem.F.type_str_split mt_split (pv 0) (pa_cons pe_str pa_nil)))
        (pss_cons (ps_if (pt_cmpR op_ge (pv 1) (pe_callB call_lenU (by rfl) T.n_len (by decide +kernel) (pa_cons (pv 2) pa_nil)) (nomark _)) (pss_one (L2H.ps_raiseH hc (takes_of rfl rfl rfl rfl) (L2H.PMk5.pmk (L2H.pmk5_oexH T.o_BadPlace T.i_BadPlace T.ti_BadPlace (okHX_init_BadPlace T) hr hc T.b_BadPlace pass0 (by rfl) T.g_BadPlace (pa_cons (pv 1) pa_nil))))) pss_nil)
        (pss_cons (ps_set (i := 3) sc_row_bounds.nd rfl (Or.inl rfl) pe_never)
        (pss_one (ps_ret (pe_tup (pa_cons (pv 3) (pa_cons (pe_op op_addU (pv 3) (pe_callB call_lenU (by rfl) T.n_len (by decide +kernel) (pa_cons (pe_ix ix_seq (pv 2) (pv 1) (fun _ _ => rfl)) pa_nil))) pa_nil)))))))), ?_⟩
    have rl := rl_len z
    walk_at "rd"
    refine r_tyS ?_
    walk_at "rd"
    rw [nl_str]
    refine ⟨z, _, rfl, rfl, by decide, by rw [sizeLine_eq]; omega, fun R hR => ?_⟩
    have eR : Ex H (upd H R (.lst ((PySem.Txt.split z NL).map V.str))) := Same.new (Same.refl _) hR
    walk_at "rd"
    refine r_lenL (sqL upd_same) ?_
    rw [List.length_map]
    walk_at "rd"
    refine r_ite (fun c => ?_) (fun c => absurd (by omega) c)
    walk_at "rd"
    exact r_raise1 fun d hd => qE _ d (eR.trans (Same.new (Same.refl _) hd)) (eR.free hd) upd_same
theorem ok_place_of (T : Txt K mg) : FnOk P w K mg base (L2N.CX P w) 4 T.a_place_of T.d_place_of ["text", "line", "column"] (spPlace T.c_BadPlace) := by
  refine Hn.okN T.F_place_of sc_place_of (fun vs H Q E h => ?_) (fun cdv A outer s H vs Q E hr h => ?_)
  · obtain ⟨z, j, c, rfl, _⟩ := h
    rfl
  · obtain ⟨z, j, c, rfl, hz, q, qE⟩ := h
    refine ⟨_, (pss_cons (ps_asg (pe_call (ok_row_bounds T) hr (by rfl) T.g_row_bounds T.F_row_bounds.kp T.b_row_bounds .nil (L2N.passes_call (L2N.takes_of rfl rfl rfl rfl) (fun _ _ _ _ h => h)) (pa_cons (pv 0) (pa_cons (pv 1) pa_nil))) (pg_tup rfl (pgs_cons (pg_name (i := 3) sc_place_of.nd rfl (Or.inl rfl)) (pgs_cons (pg_name (i := 4) sc_place_of.nd rfl (Or.inl rfl)) pgs_nil))))
        (pss_one (ps_ret (pe_callB (call_minU rfl) (by rfl) T.n_min (by decide +kernel) (pa_cons (pe_op op_addU (pv 3) (pv 2)) (pa_cons (pv 4) pa_nil)))))), ?_⟩
    walk_at "rd"
    refine ⟨z, j, rfl, hz, fun hj v H1 e1 hv => ?_, qE⟩
    refine r_gPr hv ?_
    walk_at "rd"
    have e : min (((bg z j : Nat) : Int) + (c : Nat)) ((bg z j + wd z j : Nat) : Int) = ((bg z j + min c (wd z j) : Nat) : Int) := by omega
    rw [e]
    exact q hj H1 e1
end
end K17

namespace K17
open PySem PySem.Spec PyProof.Rows L2 Dk Q48
/-- one step of a reading -/
local macro_rules | `(tactic| walk_at "rd1") => `(tactic| first
  | ((with_reducible refine r_var (v := ?rv) ?rh ?_); (case rh => rfl))
  | with_reducible refine r_c ?_
  | with_reducible refine r_seq ?_
  | with_reducible refine r_asg ?_
  | with_reducible refine r_par ?_
  | with_reducible refine r_gname ?_
  | with_reducible refine r_op ?_
  | with_reducible refine r_forLo ?_
  | with_reducible refine r_forTo ?_
  | with_reducible refine r_forSo ?_
  | with_reducible refine r_forRo ?_
  | with_reducible refine r_forRvo ?_
  | with_reducible refine r_forZo ?_
  | with_reducible refine r_revS ?_
  | with_reducible refine r_lcRo ?_
  | with_reducible refine r_lcLo ?_
  | with_reducible refine r_yes ?_
  | with_reducible refine r_callK0 ?_
  | with_reducible refine r_break ?_
  | with_reducible refine r_continue ?_
  | with_reducible refine r_forR2o ?_
  | with_reducible refine r_forEo ?_
  | with_reducible refine r_forESo ?_
  | with_reducible refine r_xfo ?_
  | with_reducible refine r_noP ?_
  | with_reducible refine r_part ?_
  | with_reducible refine r_pI ?_
  | with_reducible refine r_gcons ?_
  | with_reducible refine r_gnil ?_
  | with_reducible refine r_mkO ?_
  | with_reducible refine r_un ?_
  | with_reducible refine r_addI ?_
  | with_reducible refine r_I0 ?_
  | with_reducible refine r_U ?_
  | with_reducible refine r_cons ?_
  | with_reducible refine r_nil ?_
  | with_reducible refine r_CB ?_
  | with_reducible refine r_call ?_
  | with_reducible refine r_callS ?_
  | with_reducible refine r_int ?_
  | with_reducible refine r_max ?_
  | with_reducible refine r_min ?_
  | with_reducible refine r_test ?_
  | with_reducible refine r_B ?_
  | with_reducible refine r_blv ?_
  | with_reducible refine r_and ?_
  | with_reducible refine r_or ?_
  | with_reducible refine r_not ?_
  | with_reducible refine r_andV ?_
  | with_reducible refine r_orV ?_
  | with_reducible refine r_notV ?_
  | with_reducible refine r_ifE ?_
  | with_reducible refine r_ifS ?_
  | with_reducible refine r_ret ?_
  | with_reducible refine r_retN ?_
  | with_reducible refine r_drop ?_
  | with_reducible refine r_next ?_
  | with_reducible refine r_sl ?_
  | with_reducible refine r_gsub ?_
  | with_reducible refine r_bm ?_
  | with_reducible refine r_bm0 ?_
  | with_reducible refine r_tup ?_
  | with_reducible refine r_lst ?_
  | with_reducible refine r_isN ?_
  | with_reducible refine r_notN ?_
  | with_reducible refine r_chain ?_
  | with_reducible refine r_callK ?_
  | with_reducible refine r_isB ?_
  | with_reducible refine r_lcEio ?_
  | with_reducible refine r_forEi ?_
  | with_reducible refine r_lcTo ?_
  | with_reducible refine r_lcSo ?_
  | with_reducible refine r_m1 ?_
  | with_reducible refine r_dget ?_
  | with_reducible refine r_din ?_
  | with_reducible refine r_dnotin ?_
  | with_reducible refine r_starC ?_
  | with_reducible refine r_callKS ?_
  | with_reducible refine r_itt ?_
  | with_reducible refine r_iff ?_
  | with_reducible refine r_ittN ?_
  | with_reducible refine r_iffN ?_
  | ((with_reducible refine r_ittD ?rh ?_); (case rh => rfl))
  | ((with_reducible refine r_iffD ?rh ?_); (case rh => rfl))
  | ((with_reducible refine r_modP ?rh ?_); (case rh => decide))
  | ((with_reducible refine r_eq ?rh ?_); (case rh => rfl))
  | ((with_reducible refine r_eqP ?rh ?_); (case rh => rfl))
  | ((with_reducible refine r_ne ?rh ?_); (case rh => rfl)))
local macro_rules | `(tactic| walk_at "rd") => `(tactic| repeat walk_at "rd1")
local macro_rules | `(tactic| walk_at "isi") => `(tactic| first | refine r_isi (b := true) (by assumption) (by decide +kernel) ?_ | refine r_isi (b := false) (by assumption) (by decide +kernel) ?_)
local macro_rules | `(tactic| walk_at "rs1") => `(tactic| first
  | with_reducible refine r_seq ?_
  | with_reducible refine r_asg ?_
  | with_reducible refine r_gname ?_
  | with_reducible refine r_ret ?_)
local macro_rules | `(tactic| walk_at "rs") => `(tactic| repeat walk_at "rs1")

def spRefSpot : Sp := fun vs H Q _ => ∃ (z : Str) (k : Nat), vs = [.str z, .int (k : Nat)] ∧ z.length ≤ 6000 ∧ z.length < k ∧ ∀ H', Ex H H' → Q (.bl true) H'
def spRefLine : Sp := fun vs H Q _ => ∃ (z : Str) (k : Nat), vs = [.str z, .int (k : Nat)] ∧ z.length ≤ 6000 ∧ (rows z).length ≤ k ∧ ∀ H', Ex H H' → Q (.bl true) H'
def spRowsL : Sp := fun vs H Q _ => ∃ (z : Str) (p q : Addr) (ys : List Str), vs = [.str z, .ref p, .ref q] ∧ H p = some (.tup (ys.map V.str)) ∧ H q = some (.lst (ys.map V.str)) ∧ ys.length ≤ 100000 ∧ (ys.map (·.length)).sum + ys.length * 1 ≤ 16777216 ∧ Txt.join NL ys = z ∧ Q (.bl true) H
section
variable {P : Program} {w : World} {K : PySem.W.Frag} {mg : Str → Option Value} {base : Heap}
theorem ok_law_refused_spot (T : Txt K mg) : FnOk P w K mg base CX0 4 T.a_law_refused_spot T.d_law_refused_spot ["_law_text_here", "_law_place"] spRefSpot := by
  refine T.F_law_refused_spot.ok sc_law_refused_spot (fun vs H Q E h => ?_) (fun cdv A outer s H vs Q E hr h => ?_)
  · obtain ⟨z, k, rfl, _⟩ := h
    rfl
  · obtain ⟨z, k, rfl, hz, hk, q⟩ := h
    refine ⟨_, (pss_cons (ps_try_as (i := 2) rfl rfl sc_law_refused_spot.nd rfl rfl ⟨rfl, by decide, .inl T.g_BadPlace⟩ takes0 (fun W pn xe tk hpo => (pss_one (ps_expr (pe_callS (ok_spot_of T) hr rfl T.g_spot_of T.F_spot_of.kp T.b_spot_of (fun σ => passAt tk σ) (pa_cons (pv 0) (pa_cons (pv 1) pa_nil)))))) (fun a oe cls d pn hz hf => (pss_one (ps_ret (Dk.pe_callH0 (okH_law_is T) (roomS (hr.mono (by decide))) rfl (List.mem_cons_self ..) (by rfl) T.g_law_is T.F_law_is.kp T.b_law_is (pa_cons (pv 1) (pa_cons (pe_xf T.x_BadPlace T.na_BadPlace_at hz hf (pv 2)) pa_nil)))))))
        (pss_one (ps_ret pe_bl))), ?_⟩
    walk_at "rd"
    refine ⟨z, k, rfl, hz, fun h => absurd h (by omega), fun _ H1 d e hd hd1 => ?_⟩
    refine ⟨true, T.e_BadPlace, fun _ a0 _ => ?_, fun q => Bool.noConfusion q⟩
    walk_at "rd"
    refine ⟨rfl, rfl, d, _, _, rfl, hd1, rfl, ?_⟩
    walk_at "rd"
    refine ⟨(k : Nat), rfl, ?_⟩
    walk_at "rd"
    exact q H1 e
theorem ok_law_refused_line (T : Txt K mg) : FnOk P w K mg base CX0 5 T.a_law_refused_line T.d_law_refused_line ["_law_text_here", "_law_line"] spRefLine := by
  refine T.F_law_refused_line.ok sc_law_refused_line (fun vs H Q E h => ?_) (fun cdv A outer s H vs Q E hr h => ?_)
  · obtain ⟨z, k, rfl, _⟩ := h
    rfl
  · obtain ⟨z, k, rfl, hz, hk, q⟩ := h
    refine ⟨_, pss_cons (L2N.ps_try_as (i := 2) rfl rfl sc_law_refused_line.nd rfl rfl ⟨rfl, by decide, .inl T.g_BadPlace⟩ Hn.takesN
        (fun W pn xe tk hpo => pss_one (ps_expr (pe_callS (ok_place_of T) (hr.mono (by decide)) rfl T.g_place_of T.F_place_of.kp T.b_place_of (fun σ => L2N.passAt tk σ) (pa_cons (pv 0) (pa_cons (pv 1) (pa_cons pe_int pa_nil))))))
        (fun a oe cls d pn hz hf => pss_cons (ps_if (pt_not (pt_val (Dk.pe_callH0 (okH_law_is T) (roomS (hr.mono (by decide))) rfl (List.mem_cons_self ..) (by rfl) T.g_law_is T.F_law_is.kp T.b_law_is (pa_cons (pv 1) (pa_cons (pe_xf T.x_BadPlace T.na_BadPlace_at hz.zc hf (pv 2)) pa_nil))))) (pss_one (ps_ret pe_bl)) pss_nil)
          (pss_one (Hn.try_asH (K := K) (i := 3) rfl rfl rfl sc_law_refused_line.nd rfl rfl ⟨rfl, by decide, .inl T.g_BadPlace⟩ takes0 (fun W pn2 xe sub tk hpo => pss_one (ps_expr (L2H.pe_callH (okH_row_bounds T) (roomS (pn := (a, oe) :: pn) (hr.mono (by decide))) ((Hn.hotS hz hf).imp fun p h => ⟨h.1, sub p h.2⟩) rfl T.g_row_bounds T.F_row_bounds.kp T.b_row_bounds (fun σ => passAt tk σ) (pa_cons (pv 0) (pa_cons (pv 1) pa_nil))))) (fun a2 oe2 cls2 d2 pn2 hz2 hf2 => pss_one (ps_ret (Dk.pe_callH0 (okH_law_is T) ⟨(hr.mono (by decide : 1 ≤ 4)).dp, (hr.mono (by decide : 1 ≤ 4)).un⟩ rfl (List.mem_cons_self ..) (by rfl) T.g_law_is T.F_law_is.kp T.b_law_is (pa_cons (pv 1) (pa_cons (pe_xf T.x_BadPlace T.na_BadPlace_at hz2 hf2 (pv 3)) pa_nil)))))))))
      (pss_one (ps_ret pe_bl)), ?_⟩
    walk_at "rd"
    refine ⟨z, k, 0, rfl, hz, fun h => absurd h (by omega), fun _ H1 d e1 hd hd1 => ?_⟩
    refine ⟨true, T.e_BadPlace, fun _ a0 ha0 => ?_, fun q => Bool.noConfusion q⟩
    walk_at "rd"
    refine ⟨rfl, rfl, d, _, _, rfl, hd1, rfl, ?_⟩
    walk_at "rd"
    refine ⟨(k : Nat), rfl, ?_⟩
    walk_at "rd"
    refine ⟨z, k, rfl, hz, hk, fun H2 d2 e2 hd2 hd21 => ?_⟩
    refine ⟨true, T.e_BadPlace, fun _ a1 ha1 => ?_, fun q => Bool.noConfusion q⟩
    walk_at "rd"
    refine ⟨rfl, rfl, d2, _, _, rfl, hd21, rfl, ?_⟩
    walk_at "rd"
    refine ⟨(k : Nat), rfl, ?_⟩
    exact q H2 (e1.trans e2)
theorem ok_law_rows (T : Txt K mg) : FnOk P w K mg base CX0 2 T.a_law_rows T.d_law_rows ["_law_text_here", "_law_told_here", "_law_rows_here"] spRowsL := by
  refine T.F_law_rows.ok sc_law_rows (fun vs H Q E h => ?_) (fun cdv A outer s H vs Q E hr h => ?_)
  · obtain ⟨z, p, q, ys, rfl, _⟩ := h
    rfl
  · obtain ⟨z, p, r, ys, rfl, hp, hr', hl, hs, hj, q⟩ := h
    refine ⟨_, (pss_cons (ps_if (PW.pt (pw_or (pt_not (pt_val (pe_callB call_isi (by rfl) T.n_isinstance (by decide +kernel) (pa_cons (pv 1) (pa_cons (pe_bltn (v := .ty "tuple") (by rfl) T.n_tuple (by decide +kernel) rfl) pa_nil))))) (pw_or1 (pt_cmpR (op_neU hr.units) (pe_callB call_lenU (by rfl) T.n_len (by decide +kernel) (pa_cons (pv 1) pa_nil)) (pe_callB call_lenU (by rfl) T.n_len (by decide +kernel) (pa_cons (pv 2) pa_nil)) (nomark _))))) (pss_one (ps_ret pe_bl)) pss_nil)
        (pss_cons (ps_for PassesOwn.never rfl (pi_range1 (by rfl) T.n_range (pa_cons (pe_callB call_lenU (by rfl) T.n_len (by decide +kernel) (pa_cons (pv 2) pa_nil)) pa_nil)) (pg_name (i := 3) sc_law_rows.nd rfl (Or.inl rfl)) (pss_one (ps_if (PW.pt (pw_or (pt_not (pt_val (pe_callB call_isi (by rfl) T.n_isinstance (by decide +kernel) (pa_cons (pe_ix ix_seq (pv 1) (pv 3) (fun _ _ => rfl)) (pa_cons (pe_bltn (v := .ty "str") (by rfl) T.n_str (by decide +kernel) rfl) pa_nil))))) (pw_or1 (pt_cmpR (op_neU hr.units) (pe_ix ix_seq (pv 1) (pv 3) (fun _ _ => rfl)) (pe_ix ix_seq (pv 2) (pv 3) (fun _ _ => rfl)) (nomark _))))) (pss_one (ps_ret pe_bl)) pss_nil)))
        (pss_one (ps_ret (pe_and (pe_cmpR (op_eqU hr.units) (pe_call (ok_joined T) hr (by rfl) T.g_joined T.F_joined.kp T.b_joined .nil pass0 (pa_cons (pv 1) pa_nil)) (pv 0) (nomark _)) (pe_one (pe_callB call_isi (by rfl) T.n_isinstance (by decide +kernel) (pa_cons (pe_call (ok_joined T) hr (by rfl) T.g_joined T.F_joined.kp T.b_joined .nil pass0 (pa_cons (pv 1) pa_nil)) (pa_cons (pe_bltn (v := .ty "str") (by rfl) T.n_str (by decide +kernel) rfl) pa_nil))))))))), ?_⟩
    have ls : (ys.map V.str).length ≤ sizeLine := by rw [List.length_map, sizeLine_eq]; omega
    walk_at "rd"
    refine r_isi (b := true) (.base (.tup hp)) (by decide +kernel) ?_
    walk_at "rd"
    refine r_lenT (sqT hp) ?_
    walk_at "rd"
    refine r_lenL (sqL hr') ?_
    walk_at "rd"
    refine r_iteN (fun h => absurd rfl h) (fun _ => ?_)
    walk_at "rd"
    refine r_lenL (sqL hr') ?_
    walk_at "rd"
    refine l_R (by omega) (by rw [List.length_map]; omega) (fun i σ H' => ∃ y, σ = [some (.str z), some (.ref p), some (.ref r), y] ∧ H' = H) ⟨none, rfl, rfl⟩ (fun i σ H' hi hP => ?_) (fun σ H' hP => ?_)
    · obtain ⟨y, rfl, rfl⟩ := hP
      have hi : i < ys.length := by rw [List.length_map] at hi; omega
      have hs' : (ys.map V.str)[i]? = some (V.str ys[i]) := by rw [List.getElem?_map, List.getElem?_eq_getElem hi]; rfl
      walk_at "rd"
      refine r_ixT (sqT hp) (atI_nat hs') ?_
      walk_at "rd"
      refine r_isi (b := true) (.base (.str ys[i])) (by decide +kernel) ?_
      walk_at "rd"
      refine r_ixT (sqT hp) (atI_nat hs') ?_
      walk_at "rd"
      refine r_ixL (sqL hr') (atI_nat hs') ?_
      walk_at "rd"
      refine r_iteN (fun h => absurd rfl h) (fun _ => ?_)
      walk_at "rd"
      exact ⟨_, rfl, rfl⟩
    · obtain ⟨y, rfl, rfl⟩ := hP
      walk_at "rd"
      refine ⟨p, ys, rfl, hp, hs, ?_⟩
      walk_at "rd"
      rw [hj]
      refine r_ittD ?_ ?_
      · exact decide_eq_true rfl
      walk_at "rd"
      refine ⟨p, ys, rfl, hp, hs, ?_⟩
      walk_at "rd"
      refine r_isi (b := true) (.base (.str _)) (by decide +kernel) ?_
      exact q
end
end K17

namespace K17
open PySem PySem.Spec PyProof.Rows L2 Dk Q48
/-- one step of a reading -/
local macro_rules | `(tactic| walk_at "rd1") => `(tactic| first
  | ((with_reducible refine r_var (v := ?rv) ?rh ?_); (case rh => rfl))
  | with_reducible refine r_c ?_
  | with_reducible refine r_seq ?_
  | with_reducible refine r_asg ?_
  | with_reducible refine r_par ?_
  | with_reducible refine r_gname ?_
  | with_reducible refine r_op ?_
  | with_reducible refine r_forLo ?_
  | with_reducible refine r_forTo ?_
  | with_reducible refine r_forSo ?_
  | with_reducible refine r_forRo ?_
  | with_reducible refine r_forRvo ?_
  | with_reducible refine r_forZo ?_
  | with_reducible refine r_revS ?_
  | with_reducible refine r_lcRo ?_
  | with_reducible refine r_lcLo ?_
  | with_reducible refine r_yes ?_
  | with_reducible refine r_callK0 ?_
  | with_reducible refine r_break ?_
  | with_reducible refine r_continue ?_
  | with_reducible refine r_forR2o ?_
  | with_reducible refine r_forEo ?_
  | with_reducible refine r_forESo ?_
  | with_reducible refine r_xfo ?_
  | with_reducible refine r_noP ?_
  | with_reducible refine r_part ?_
  | with_reducible refine r_pI ?_
  | with_reducible refine r_gcons ?_
  | with_reducible refine r_gnil ?_
  | with_reducible refine r_mkO ?_
  | with_reducible refine r_un ?_
  | with_reducible refine r_addI ?_
  | with_reducible refine r_I0 ?_
  | with_reducible refine r_U ?_
  | with_reducible refine r_cons ?_
  | with_reducible refine r_nil ?_
  | with_reducible refine r_CB ?_
  | with_reducible refine r_call ?_
  | with_reducible refine r_callS ?_
  | with_reducible refine r_int ?_
  | with_reducible refine r_max ?_
  | with_reducible refine r_min ?_
  | with_reducible refine r_test ?_
  | with_reducible refine r_B ?_
  | with_reducible refine r_blv ?_
  | with_reducible refine r_and ?_
  | with_reducible refine r_or ?_
  | with_reducible refine r_not ?_
  | with_reducible refine r_andV ?_
  | with_reducible refine r_orV ?_
  | with_reducible refine r_notV ?_
  | with_reducible refine r_ifE ?_
  | with_reducible refine r_ifS ?_
  | with_reducible refine r_ret ?_
  | with_reducible refine r_retN ?_
  | with_reducible refine r_drop ?_
  | with_reducible refine r_next ?_
  | with_reducible refine r_sl ?_
  | with_reducible refine r_gsub ?_
  | with_reducible refine r_bm ?_
  | with_reducible refine r_bm0 ?_
  | with_reducible refine r_tup ?_
  | with_reducible refine r_lst ?_
  | with_reducible refine r_isN ?_
  | with_reducible refine r_notN ?_
  | with_reducible refine r_chain ?_
  | with_reducible refine r_callK ?_
  | with_reducible refine r_isB ?_
  | with_reducible refine r_lcEio ?_
  | with_reducible refine r_forEi ?_
  | with_reducible refine r_lcTo ?_
  | with_reducible refine r_lcSo ?_
  | with_reducible refine r_m1 ?_
  | with_reducible refine r_dget ?_
  | with_reducible refine r_din ?_
  | with_reducible refine r_dnotin ?_
  | with_reducible refine r_starC ?_
  | with_reducible refine r_callKS ?_
  | with_reducible refine r_itt ?_
  | with_reducible refine r_iff ?_
  | with_reducible refine r_ittN ?_
  | with_reducible refine r_iffN ?_
  | ((with_reducible refine r_ittD ?rh ?_); (case rh => rfl))
  | ((with_reducible refine r_iffD ?rh ?_); (case rh => rfl))
  | ((with_reducible refine r_modP ?rh ?_); (case rh => decide))
  | ((with_reducible refine r_eq ?rh ?_); (case rh => rfl))
  | ((with_reducible refine r_eqP ?rh ?_); (case rh => rfl))
  | ((with_reducible refine r_ne ?rh ?_); (case rh => rfl)))
local macro_rules | `(tactic| walk_at "rd") => `(tactic| repeat walk_at "rd1")
local macro_rules | `(tactic| walk_at "isi") => `(tactic| first | refine r_isi (b := true) (by assumption) (by decide +kernel) ?_ | refine r_isi (b := false) (by assumption) (by decide +kernel) ?_)
local macro_rules | `(tactic| walk_at "rs1") => `(tactic| first
  | with_reducible refine r_seq ?_
  | with_reducible refine r_asg ?_
  | with_reducible refine r_gname ?_
  | with_reducible refine r_ret ?_)
local macro_rules | `(tactic| walk_at "rs") => `(tactic| repeat walk_at "rs1")

theorem li_zero (z : Str) : li z 0 = 0 := by unfold li ln; rw [List.take_zero]; rfl
theorem li_succ {z : Str} {k c : Nat} (h : (cs z)[k]? = some c) : li z (k + 1) = li z k + if c = 10 then 1 else 0 := by
  unfold li ln
  rw [List.take_add_one, h, List.filter_append, List.length_append]
  show _ + (List.filter _ [c]).length = _
  by_cases e : c = 10
  · rw [if_pos e, List.filter_cons_of_pos (by simpa using e)]
    rfl
  · rw [if_neg e, List.filter_cons_of_neg (by simpa using e)]
    rfl
theorem rw_at {z : Str} {j : Nat} (h : j < (rows z).length) : ∃ r, (rw' z)[j]? = some r := ⟨_, List.getElem?_eq_getElem (by rw [← rl_len]; exact h)⟩
theorem bg_succ {z : Str} {j : Nat} (h : j < (rows z).length) : bg z (j + 1) = bg z j + wd z j + 1 := by
  obtain ⟨r, hr⟩ := rw_at h
  have hr2 : (rows z)[j]? = some (cs r) := by unfold rows; rw [List.getElem?_map, hr]; rfl
  have := beg_succ hr2
  unfold bg
  rw [this, cs_len, (row_text hr).2]
theorem bg_in {z : Str} {j : Nat} (h : j < (rows z).length) : bg z j + wd z j ≤ z.length := by
  obtain ⟨r, hr⟩ := rw_at h
  have hr2 : (rows z)[j]? = some (cs r) := by unfold rows; rw [List.getElem?_map, hr]; rfl
  have := row_in hr2
  rw [rows_eq, cs_len, cs_len, (row_text hr).2] at this
  exact this
theorem rows_pos (z : Str) : 0 < (rows z).length := List.length_pos_iff.mpr (rows_ne z)
theorem li_all (z : Str) : li z z.length + 1 = (rows z).length := by
  have := rows_feeds (rows_ne z) (rows_free z)
  rw [rows_eq, cs_len] at this
  exact this
theorem bg_feed {z : Str} {k : Nat} (h : (cs z)[k]? = some 10) : bg z (li z k + 1) = k + 1 := by
  have hk : k < z.length := by rw [← cs_len]; exact (List.getElem?_eq_some_iff.mp h).1
  obtain ⟨a1, a2, a3, _⟩ := place_facts (Nat.le_of_lt hk)
  obtain ⟨b1, b2, b3, _⟩ := place_facts (show k + 1 ≤ z.length from hk)
  rw [li_succ h, if_pos rfl] at b1 b2 b3
  have := bg_succ a1
  omega
theorem end_row {z : Str} {j : Nat} (h : j < (rows z).length) (hl : ¬ j + 1 < (rows z).length) : bg z j + wd z j = z.length := by
  obtain ⟨a1, a2, a3, _⟩ := place_facts (Nat.le_refl z.length)
  have e := li_all z
  have ej : li z z.length = j := by omega
  rw [ej] at a3
  have := bg_in h
  omega
def bgs (z : Str) (n : Nat) : List V := ((List.range n).map fun j => ((bg z j : Nat) : Int)).map V.int
theorem bgs_at {z : Str} {n j : Nat} (h : j < n) : (bgs z n)[j]? = some (V.int ((bg z j : Nat) : Int)) := by
  unfold bgs
  rw [List.getElem?_map, List.getElem?_map, List.getElem?_range h]
  rfl
theorem bgs_len (z : Str) (n : Nat) : (bgs z n).length = n := by unfold bgs; rw [List.length_map, List.length_map, List.length_range]
theorem bgs_succ (z : Str) (n : Nat) : bgs z (n + 1) = bgs z n ++ [V.int ((bg z n : Nat) : Int)] := by
  unfold bgs
  rw [List.range_succ, List.map_append, List.map_append]
  rfl
def spots (z : Str) (n : Nat) : List Iv := (List.range n).map fun k => (((li z k : Nat) : Int), ((co z k : Nat) : Int))
theorem spots_succ (z : Str) (n : Nat) : spots z (n + 1) = spots z n ++ [(((li z n : Nat) : Int), ((co z n : Nat) : Int))] := by
  unfold spots
  rw [List.range_succ, List.map_append]
  rfl
theorem spots_at {z : Str} {n k : Nat} (h : k < n) : (spots z n)[k]? = some (((li z k : Nat) : Int), ((co z k : Nat) : Int)) := by
  unfold spots
  rw [List.getElem?_map, List.getElem?_range h]
  rfl
/-- the rows that are known so far -/
def half (z : Str) (j n : Nat) : List V := ((rw' z).take j).map V.str ++ List.replicate (n - j) (V.str "")
theorem half_len {z : Str} {j : Nat} (h : j ≤ (rows z).length) : (half z j (rows z).length).length = (rows z).length := by
  unfold half
  rw [List.length_append, List.length_map, List.length_take, List.length_replicate, ← rl_len]
  omega
theorem half_set {z : Str} {j : Nat} {r : Str} (h : j < (rows z).length) (hr : (rw' z)[j]? = some r) : (half z j (rows z).length).set j (.str r) = half z (j + 1) (rows z).length := by
  unfold half
  have hl : ((rw' z).take j).length = j := by rw [List.length_take, ← rl_len]; omega
  rw [List.set_append_right _ _ (by rw [List.length_map, hl]; exact Nat.le_refl _), List.length_map, hl, Nat.sub_self, List.take_add_one, hr, List.map_append, List.append_assoc]
  congr 1
  rw [show (rows z).length - j = ((rows z).length - (j + 1)) + 1 by omega, List.replicate_succ]
  rfl
theorem half_zero (z : Str) (n : Nat) : half z 0 n = List.replicate n (V.str "") := rfl
theorem half_all (z : Str) : half z (rows z).length (rows z).length = (rw' z).map V.str := by
  unfold half
  rw [List.take_of_length_le (by rw [← rl_len]; exact Nat.le_refl _), Nat.sub_self]
  exact List.append_nil _
def spWalk : Sp := fun vs H Q _ => ∃ z : Str, vs = [.str z] ∧ z.length ≤ 6000 ∧ ∀ (L R S B : Addr) (xs : List V) H', Ex H H' → H R = none → H S = none → H B = none → H' L = some (.lst [.ref R, .ref S, .ref B]) → H' R = some (.lst ((rw' z).map V.str)) → H' S = some (.lst xs) → PrL H' xs (spots z (z.length + 1)) →
  H' B = some (.lst (bgs z (rows z).length)) → Q (.ref L) H'
section
variable {P : Program} {w : World} {K : PySem.W.Frag} {mg : Str → Option Value} {base : Heap}
theorem ok_law_walk (T : Txt K mg) : FnOk P w K mg base CX0 1 T.a_law_walk T.d_law_walk ["_law_text_here"] spWalk := by
  refine T.F_law_walk.ok sc_law_walk (fun vs H Q E h => ?_) (fun cdv A outer s H vs Q E hr h => ?_)
  · obtain ⟨z, rfl, _⟩ := h
    rfl
  · obtain ⟨z, rfl, hz, q⟩ := h
    refine ⟨_, (pss_cons (ps_set (i := 1) sc_law_walk.nd rfl (Or.inl rfl) (pe_lst (pa_cons pe_str pa_nil)))
        (pss_cons (ps_set (i := 2) sc_law_walk.nd rfl (Or.inl rfl) (pe_lst pa_nil))
        (pss_cons (ps_set (i := 3) sc_law_walk.nd rfl (Or.inl rfl) (pe_lst (pa_cons pe_int pa_nil)))
        (pss_cons (ps_for PassesOwn.never rfl (pi_range1 (by rfl) T.n_range (pa_cons (pe_callB call_lenU (by rfl) T.n_len (by decide +kernel) (pa_cons (pv 0) pa_nil)) pa_nil)) (pg_name (i := 4) sc_law_walk.nd rfl (Or.inl rfl)) (pss_cons (ps_expr (pe_bm PySem.F.plainAttrs_list PySem.F.slot_list_append PySem.F.type_list_append mt_append (pv 2) (pa_cons (pe_tup (pa_cons (pe_op op_sub (pe_callB call_lenU (by rfl) T.n_len (by decide +kernel) (pa_cons (pv 1) pa_nil)) pe_int) (pa_cons (pe_op op_sub (pv 4) (pe_ix ix_seq (pv 3) (pe_op op_sub (pe_callB call_lenU (by rfl) T.n_len (by decide +kernel) (pa_cons (pv 1) pa_nil)) pe_int) (fun _ _ => rfl))) pa_nil))) pa_nil)))
        (pss_one (ps_if (pt_cmpR (op_eqU hr.units) (pe_ix ix_seq (pv 0) (pv 4) (fun _ _ => rfl)) pe_str (nomark _)) (pss_cons (ps_expr (pe_bm PySem.F.plainAttrs_list PySem.F.slot_list_append PySem.F.type_list_append mt_append (pv 1) (pa_cons pe_str pa_nil)))
        (pss_one (ps_expr (pe_bm PySem.F.plainAttrs_list PySem.F.slot_list_append PySem.F.type_list_append mt_append (pv 3) (pa_cons (pe_op op_addU (pv 4) pe_int) pa_nil))))) pss_nil))))
        (pss_cons (ps_expr (pe_bm PySem.F.plainAttrs_list PySem.F.slot_list_append PySem.F.type_list_append mt_append (pv 2) (pa_cons (pe_tup (pa_cons (pe_op op_sub (pe_callB call_lenU (by rfl) T.n_len (by decide +kernel) (pa_cons (pv 1) pa_nil)) pe_int) (pa_cons (pe_op op_sub (pe_callB call_lenU (by rfl) T.n_len (by decide +kernel) (pa_cons (pv 0) pa_nil)) (pe_ix ix_seq (pv 3) (pe_op op_sub (pe_callB call_lenU (by rfl) T.n_len (by decide +kernel) (pa_cons (pv 1) pa_nil)) pe_int) (fun _ _ => rfl))) pa_nil))) pa_nil)))
        (pss_cons (ps_for PassesOwn.never rfl (pi_range1 (by rfl) T.n_range (pa_cons (pe_callB call_lenU (by rfl) T.n_len (by decide +kernel) (pa_cons (pv 1) pa_nil)) pa_nil)) (pg_name (i := 5) sc_law_walk.nd rfl (Or.inl rfl)) (pss_cons (ps_set (i := 6) sc_law_walk.nd rfl (Or.inl rfl) (pe_callB call_lenU (by rfl) T.n_len (by decide +kernel) (pa_cons (pv 0) pa_nil)))
        (Evl.pss_cut (ps_if (pt_cmpR op_lt (pe_op op_addU (pv 5) pe_int) (pe_callB call_lenU (by rfl) T.n_len (by decide +kernel) (pa_cons (pv 1) pa_nil)) (nomark _)) (pss_one (ps_set (i := 6) sc_law_walk.nd rfl (Or.inl rfl) (pe_op op_sub (pe_ix ix_seq (pv 3) (pe_op op_addU (pv 5) pe_int) (fun _ _ => rfl)) pe_int))) pss_nil)
        (pss_one (ps_asg (pe_slice sl_U (pv 0) (po_some (pe_ix ix_seq (pv 3) (pv 5) (fun _ _ => rfl))) (po_some (pv 6))) (pg_sub (pv 1) (pv 5) set_list))))))
        (pss_one (ps_ret (pe_lst (pa_cons (pv 1) (pa_cons (pv 2) (pa_cons (pv 3) pa_nil)))))))))))), ?_⟩
    have zl : z.length ≤ sizeLine := by rw [sizeLine_eq]; omega
    walk_at "rd"
    refine r_small nsz fun R hR => ?_
    obtain ⟨H1, eH1, x1, g1⟩ := new1 hR (.lst [V.str ""])
    rw [← eH1]
    walk_at "rd"
    refine r_small nsz fun S hS => ?_
    obtain ⟨H2, eH2, x2, g2⟩ := new1 hS (.lst [])
    rw [← eH2]
    walk_at "rd"
    refine r_small nsz fun B hB => ?_
    obtain ⟨H3, eH3, x3, g3⟩ := new1 hB (.lst [V.int 0])
    rw [← eH3]
    have nRS : R ≠ S := fun e => by rw [← e, g1] at hS; cases hS
    have nRB : R ≠ B := fun e => by rw [← e, x2 _ _ g1] at hB; cases hB
    have nSB : S ≠ B := fun e => by rw [← e, g2] at hB; cases hB
    have fS := x1.free hS
    have fB := (x1.trans x2).free hB
    have e3 := (x1.trans x2).trans x3
    walk_at "rd"
    refine r_lenS zl ?_
    walk_at "rd"
    have bg0 : bg z 0 = 0 := rfl
    have rs := rows_pos z
    have rsl := rows_pos z
    have small : (rows z).length ≤ 7000 := by
      have := PyProof.Rows.split_le z NL
      rw [rl_len]
      omega
    refine l_R (by omega) (by omega) (fun i σ H' => ∃ y1 y2 y3 xs, σ = [some (.str z), some (.ref R), some (.ref S), some (.ref B), y1, y2, y3] ∧ Ex H H' ∧ H' R = some (.lst (List.replicate (li z i + 1) (.str ""))) ∧ H' S = some (.lst xs) ∧ PrL H' xs (spots z i) ∧ H' B = some (.lst (bgs z (li z i + 1))))
      ⟨none, none, none, [], rfl, e3, by rw [li_zero]; exact x3 _ _ (x2 _ _ g1), x3 _ _ g2, .nil, by rw [li_zero]; exact g3⟩ (fun i σ H' hi hP => ?_) (fun σ H' hP => ?_)
    · obtain ⟨y1, y2, y3, xs, rfl, e, hR', hS', hp, hB'⟩ := hP
      have hi' : i < (cs z).length := by rw [cs_len]; omega
      have hc := List.getElem?_eq_getElem hi'
      obtain ⟨pf1, pf2, pf3, _⟩ := place_facts (z := z) (k := i) (by omega)
      have xl : xs.length = i := by rw [hp.len]; unfold spots; rw [List.length_map, List.length_range]
      walk_at "rd"
      refine r_tyL (sqL hS') ?_
      walk_at "rd"
      refine r_lenL (sqL hR') ?_
      rw [List.length_replicate]
      walk_at "rd"
      refine r_lenL (sqL hR') ?_
      rw [List.length_replicate]
      walk_at "rd"
      refine r_ixL (sqL hB') (at_g (j := li z i) (by omega) (bgs_at (by omega))) ?_
      walk_at "rd"
      rw [show ((li z i + 1 : Nat) : Int) - 1 = (li z i : Nat) by omega, show ((i : Nat) : Int) - (bg z (li z i) : Nat) = (co z i : Nat) by unfold co; omega]
      refine r_small nsz fun p hpn => ?_
      obtain ⟨H4, eH4, x4, g4⟩ := newPr hpn (li z i : Nat) (co z i : Nat)
      rw [← eH4]
      walk_at "rd"
      refine r_app (x4 _ _ hS') (by rw [xl, sizeLine_eq]; omega) ?_
      obtain ⟨H5, eH5⟩ : ∃ H5, H5 = upd H4 S (.lst (xs ++ [.ref p])) := ⟨_, rfl⟩
      rw [← eH5]
      have t5 : Tk H' H5 := by rw [eH5]; exact (Tk.ex x4).trans (Tk.put (x4 _ _ hS'))
      have p5 : PrL H5 (xs ++ [.ref p]) (spots z (i + 1)) := by
        rw [spots_succ]
        refine (prl_imm t5 hp).snoc ?_
        rw [eH5]
        exact imm (Tk.put (x4 _ _ hS')) g4
      have e5 : Ex H H5 := by rw [eH5]; exact Same.mut (e.trans x4) fS
      have hS5 : H5 S = some (.lst (xs ++ [.ref p])) := by rw [eH5, upd_same]
      have hR5 : H5 R = some (.lst (List.replicate (li z i + 1) (.str ""))) := by rw [eH5, upd_ne nRS]; exact x4 _ _ hR'
      have hB5 : H5 B = some (.lst (bgs z (li z i + 1))) := by rw [eH5, upd_ne (Ne.symm nSB)]; exact x4 _ _ hB'
      walk_at "rd"
      refine r_ixS zl (atI_nat hc) ?_
      walk_at "rd"
      have ls := li_succ hc
      refine r_ite (fun h => ?_) (fun h => ?_)
      · have c10 : (cs z)[i] = 10 := by
          have h := V.str.inj h
          rw [nl_str] at h
          injection h with h
          injection h with h
          injection h
        rw [if_pos c10] at ls
        walk_at "rd"
        refine r_tyL (sqL hR5) ?_
        walk_at "rd"
        refine r_app hR5 (by rw [List.length_replicate, sizeLine_eq]; omega) ?_
        walk_at "rd"
        refine r_tyL (sqL (by rw [upd_ne (Ne.symm nRB)]; exact hB5)) ?_
        walk_at "rd"
        refine r_app (by rw [upd_ne (Ne.symm nRB)]; exact hB5) (by rw [bgs_len, sizeLine_eq]; omega) ?_
        walk_at "rd"
        refine ⟨_, _, _, xs ++ [.ref p], rfl, Same.mut (Same.mut e5 hR) fB, ?_, ?_, ?_, ?_⟩
        · rw [upd_ne nRB, upd_same, ls, List.replicate_succ' (n := li z i + 1)]
        · rw [upd_ne nSB, upd_ne (Ne.symm nRS)]
          exact hS5
        · exact prl_imm ((Tk.put hR5).trans (Tk.put (by rw [upd_ne (Ne.symm nRB)]; exact hB5))) p5
        · rw [upd_same, ls, bgs_succ z (li z i + 1), bg_feed (by rw [hc, c10])]
          rfl
      · have c10 : ¬ (cs z)[i] = 10 := fun e => h (by rw [nl_str, e]; rfl)
        rw [if_neg c10, Nat.add_zero] at ls
        walk_at "rd"
        exact ⟨_, _, _, xs ++ [.ref p], rfl, e5, by rw [ls]; exact hR5, hS5, p5, by rw [ls]; exact hB5⟩
    · obtain ⟨y1, y2, y3, xs, rfl, e, hR', hS', hp, hB'⟩ := hP
      rw [Int.toNat_natCast] at hR' hp hB'
      have la := li_all z
      rw [la] at hR' hB'
      have xl : xs.length = z.length := by rw [hp.len]; unfold spots; rw [List.length_map, List.length_range]
      obtain ⟨pf1, pf2, pf3, _⟩ := place_facts (Nat.le_refl z.length)
      walk_at "rd"
      refine r_tyL (sqL hS') ?_
      walk_at "rd"
      refine r_lenL (sqL hR') ?_
      rw [List.length_replicate]
      walk_at "rd"
      refine r_lenS zl ?_
      walk_at "rd"
      refine r_lenL (sqL hR') ?_
      rw [List.length_replicate]
      walk_at "rd"
      refine r_ixL (sqL hB') (at_g (j := li z z.length) (by omega) (bgs_at (by omega))) ?_
      walk_at "rd"
      rw [show (((rows z).length : Nat) : Int) - 1 = (li z z.length : Nat) by omega, show ((z.length : Nat) : Int) - (bg z (li z z.length) : Nat) = (co z z.length : Nat) by unfold co; omega]
      refine r_small nsz fun p hpn => ?_
      obtain ⟨H4, eH4, x4, g4⟩ := newPr hpn (li z z.length : Nat) (co z z.length : Nat)
      rw [← eH4]
      walk_at "rd"
      refine r_app (x4 _ _ hS') (by rw [xl, sizeLine_eq]; omega) ?_
      obtain ⟨H5, eH5⟩ : ∃ H5, H5 = upd H4 S (.lst (xs ++ [.ref p])) := ⟨_, rfl⟩
      rw [← eH5]
      have t5 : Tk H' H5 := by rw [eH5]; exact (Tk.ex x4).trans (Tk.put (x4 _ _ hS'))
      have p5 : PrL H5 (xs ++ [.ref p]) (spots z (z.length + 1)) := by
        rw [spots_succ]
        refine (prl_imm t5 hp).snoc ?_
        rw [eH5]
        exact imm (Tk.put (x4 _ _ hS')) g4
      have e5 : Ex H H5 := by rw [eH5]; exact Same.mut (e.trans x4) fS
      have hS5 : H5 S = some (.lst (xs ++ [.ref p])) := by rw [eH5, upd_same]
      have hR5 : H5 R = some (.lst (half z 0 (rows z).length)) := by rw [eH5, upd_ne nRS]; exact x4 _ _ hR'
      have hB5 : H5 B = some (.lst (bgs z (rows z).length)) := by rw [eH5, upd_ne (Ne.symm nSB)]; exact x4 _ _ hB'
      walk_at "rd"
      refine r_lenL (sqL hR5) ?_
      rw [half_len (Nat.zero_le _)]
      walk_at "rd"
      refine l_R (by omega) (by omega) (fun j σ H' => ∃ y1 y2 y3, σ = [some (.str z), some (.ref R), some (.ref S), some (.ref B), y1, y2, y3] ∧ Ex H H' ∧ H' R = some (.lst (half z j (rows z).length)) ∧ H' S = some (.lst (xs ++ [.ref p])) ∧ PrL H' (xs ++ [.ref p]) (spots z (z.length + 1)) ∧ H' B = some (.lst (bgs z (rows z).length)))
        ⟨_, _, _, rfl, e5, hR5, hS5, p5, hB5⟩ (fun j σ H' hj hP => ?_) (fun σ H' hP => ?_)
      · obtain ⟨y1, y2, y3, rfl, e, hR', hS', hp, hB'⟩ := hP
        have hj : j < (rows z).length := by omega
        obtain ⟨r, hr'⟩ := rw_at hj
        obtain ⟨rt, rlen⟩ := row_text hr'
        have bs := bg_succ hj
        walk_at "rd"
        refine r_lenS zl ?_
        walk_at "rd"
        refine ⟨fun σ2 H2 => ∃ y4 y5, σ2 = [some (.str z), some (.ref R), some (.ref S), some (.ref B), y4, y5, some (.int ((bg z j + wd z j : Nat) : Int))] ∧ y5 = some (V.int (j : Nat)) ∧ H2 = H', ?_, ?_⟩
        · walk_at "rd"
          refine r_lenL (sqL hR') ?_
          rw [half_len (by omega)]
          walk_at "rd"
          refine r_ite (fun h => ?_) (fun h => ?_)
          · walk_at "rd"
            refine r_ixL (sqL hB') (at_g (j := j + 1) (by omega) (bgs_at (by omega))) ?_
            walk_at "rd"
            rw [bs]
            exact ⟨_, _, by rw [show ((bg z j + wd z j + 1 : Nat) : Int) - 1 = ((bg z j + wd z j : Nat) : Int) by omega]; rfl, rfl, rfl⟩
          · have := end_row hj (by omega)
            walk_at "rd"
            rw [← this]
            exact ⟨_, _, rfl, rfl, rfl⟩
        · rintro σ2 H2 ⟨y4, y5, rfl, rfl, rfl⟩
          walk_at "rd"
          refine r_ixL (sqL hB') (atI_nat (bgs_at hj)) ?_
          walk_at "rd"
          refine r_slS zl ?_
          rw [rt]
          walk_at "rd"
          refine r_setL hR' (n := j) (ixN_nat (by omega) (by rw [half_len (by omega)]; omega)) ?_
          rw [half_set hj hr']
          walk_at "rd"
          exact ⟨_, _, _, rfl, Same.mut e hR, upd_same, by rw [upd_ne (Ne.symm nRS)]; exact hS', prl_imm (Tk.put hR') hp, by rw [upd_ne (Ne.symm nRB)]; exact hB'⟩
      · obtain ⟨y1, y2, y3, rfl, e, hR', hS', hp, hB'⟩ := hP
        rw [Int.toNat_natCast, half_all] at hR'
        walk_at "rd"
        refine r_small nsz fun L hL => ?_
        have xL : Ex H' (upd H' L (.lst [.ref R, .ref S, .ref B])) := Same.new (Same.refl _) hL
        exact q L R S B _ _ (e.trans xL) hR fS fB upd_same (xL _ _ hR') (xL _ _ hS') (prl_imm (Tk.ex xL) hp) (xL _ _ hB')
end
end K17

namespace K17
open PySem PySem.Spec PyProof.Rows L2 Dk Q48
/-- one step of a reading -/
local macro_rules | `(tactic| walk_at "rd1") => `(tactic| first
  | ((with_reducible refine r_var (v := ?rv) ?rh ?_); (case rh => rfl))
  | with_reducible refine r_c ?_
  | with_reducible refine r_seq ?_
  | with_reducible refine r_asg ?_
  | with_reducible refine r_par ?_
  | with_reducible refine r_gname ?_
  | with_reducible refine r_op ?_
  | with_reducible refine r_forLo ?_
  | with_reducible refine r_forTo ?_
  | with_reducible refine r_forSo ?_
  | with_reducible refine r_forRo ?_
  | with_reducible refine r_forRvo ?_
  | with_reducible refine r_forZo ?_
  | with_reducible refine r_revS ?_
  | with_reducible refine r_lcRo ?_
  | with_reducible refine r_lcLo ?_
  | with_reducible refine r_yes ?_
  | with_reducible refine r_callK0 ?_
  | with_reducible refine r_break ?_
  | with_reducible refine r_continue ?_
  | with_reducible refine r_forR2o ?_
  | with_reducible refine r_forEo ?_
  | with_reducible refine r_forESo ?_
  | with_reducible refine r_xfo ?_
  | with_reducible refine r_noP ?_
  | with_reducible refine r_part ?_
  | with_reducible refine r_pI ?_
  | with_reducible refine r_gcons ?_
  | with_reducible refine r_gnil ?_
  | with_reducible refine r_mkO ?_
  | with_reducible refine r_un ?_
  | with_reducible refine r_addI ?_
  | with_reducible refine r_I0 ?_
  | with_reducible refine r_U ?_
  | with_reducible refine r_cons ?_
  | with_reducible refine r_nil ?_
  | with_reducible refine r_CB ?_
  | with_reducible refine r_call ?_
  | with_reducible refine r_callS ?_
  | with_reducible refine r_int ?_
  | with_reducible refine r_max ?_
  | with_reducible refine r_min ?_
  | with_reducible refine r_test ?_
  | with_reducible refine r_B ?_
  | with_reducible refine r_blv ?_
  | with_reducible refine r_and ?_
  | with_reducible refine r_or ?_
  | with_reducible refine r_not ?_
  | with_reducible refine r_andV ?_
  | with_reducible refine r_orV ?_
  | with_reducible refine r_notV ?_
  | with_reducible refine r_ifE ?_
  | with_reducible refine r_ifS ?_
  | with_reducible refine r_ret ?_
  | with_reducible refine r_retN ?_
  | with_reducible refine r_drop ?_
  | with_reducible refine r_next ?_
  | with_reducible refine r_sl ?_
  | with_reducible refine r_gsub ?_
  | with_reducible refine r_bm ?_
  | with_reducible refine r_bm0 ?_
  | with_reducible refine r_tup ?_
  | with_reducible refine r_lst ?_
  | with_reducible refine r_isN ?_
  | with_reducible refine r_notN ?_
  | with_reducible refine r_chain ?_
  | with_reducible refine r_callK ?_
  | with_reducible refine r_isB ?_
  | with_reducible refine r_lcEio ?_
  | with_reducible refine r_forEi ?_
  | with_reducible refine r_lcTo ?_
  | with_reducible refine r_lcSo ?_
  | with_reducible refine r_m1 ?_
  | with_reducible refine r_dget ?_
  | with_reducible refine r_din ?_
  | with_reducible refine r_dnotin ?_
  | with_reducible refine r_starC ?_
  | with_reducible refine r_callKS ?_
  | with_reducible refine r_itt ?_
  | with_reducible refine r_iff ?_
  | with_reducible refine r_ittN ?_
  | with_reducible refine r_iffN ?_
  | ((with_reducible refine r_ittD ?rh ?_); (case rh => rfl))
  | ((with_reducible refine r_iffD ?rh ?_); (case rh => rfl))
  | ((with_reducible refine r_modP ?rh ?_); (case rh => decide))
  | ((with_reducible refine r_eq ?rh ?_); (case rh => rfl))
  | ((with_reducible refine r_eqP ?rh ?_); (case rh => rfl))
  | ((with_reducible refine r_ne ?rh ?_); (case rh => rfl)))
local macro_rules | `(tactic| walk_at "rd") => `(tactic| repeat walk_at "rd1")
local macro_rules | `(tactic| walk_at "isi") => `(tactic| first | refine r_isi (b := true) (by assumption) (by decide +kernel) ?_ | refine r_isi (b := false) (by assumption) (by decide +kernel) ?_)
local macro_rules | `(tactic| walk_at "rs1") => `(tactic| first
  | with_reducible refine r_seq ?_
  | with_reducible refine r_asg ?_
  | with_reducible refine r_gname ?_
  | with_reducible refine r_ret ?_)
local macro_rules | `(tactic| walk_at "rs") => `(tactic| repeat walk_at "rs1")

theorem join_rows (z : Str) : Txt.join NL (rw' z) = z := (eq_of_beq (PyProof.Rows.join_plain_closes NL (rw' z))).trans (PySem.StrLaws.join_split z NL)
theorem sum_len (l : List Str) : (l.map (·.length)).sum + l.length * 1 = ((l.map cs).map fun r => r.length + 1).sum := by
  induction l with
  | nil => rfl
  | cons a l ih =>
    rw [List.map_cons, List.sum_cons, List.length_cons, List.map_cons, List.map_cons, List.sum_cons, ← ih, cs_len]
    omega
theorem sum_rows (z : Str) : ((rw' z).map (·.length)).sum + (rw' z).length * 1 = z.length + 1 := by
  have h1 := rows_pos z
  have h2 := bg_succ (z := z) (j := (rows z).length - 1) (by omega)
  have h3 := end_row (z := z) (j := (rows z).length - 1) (by omega) (by omega)
  rw [sum_len, show (rows z).length - 1 + 1 = (rows z).length by omega] at *
  unfold bg beg at h2
  rw [List.take_of_length_le (Nat.le_refl _)] at h2
  unfold bg beg at h3
  show ((rows z).map fun r => r.length + 1).sum = _
  omega
theorem drw_tk {a : Addr} {H H' : Hp} (s : Stt H a) (d : Drw (cell a) H H') : Tk H H' := fun p xs e => d.hh p _ (fun z => by
  obtain ⟨_, w, _⟩ := s
  rw [show p = a from z, w] at e
  cases e) e
def natL (ms : List Nat) : List V := ms.map fun k => V.int (k : Nat)
def spLines : Sp := fun vs H Q _ => ∃ (a : Addr) (z : Str) (ev : Bool), vs = [.ref a, .str z, .bl ev] ∧ Stt H a ∧ z.length ≤ 5000 ∧ ∀ H', Drw (cell a) H H' → Q (.bl true) H'
section
variable {P : Program} {w : World} {K : PySem.W.Frag} {mg : Str → Option Value} {base : Heap}
theorem ok_law_lines (T : Txt K mg) : FnOk P w K mg base CX0 6 T.a_law_lines T.d_law_lines ["_law_state", "_law_text_here", "_law_every"] spLines := by
  refine T.F_law_lines.ok sc_law_lines (fun vs H Q E h => ?_) (fun cdv A outer s H vs Q E hr h => ?_)
  · obtain ⟨a, z, ev, rfl, _⟩ := h
    rfl
  · obtain ⟨a, z, ev, rfl, hs, hz, q⟩ := h
    refine ⟨_, (pss_cons (ps_asg (pe_call (ok_law_walk T) (hr.mono (by decide)) (by rfl) T.g_law_walk T.F_law_walk.kp T.b_law_walk .nil pass0 (pa_cons (pv 1) pa_nil)) (pg_unl rfl (pgs_cons (pg_name (i := 3) sc_law_lines.nd rfl (Or.inr rfl)) (pgs_cons (pg_name (i := 4) sc_law_lines.nd rfl (Or.inl rfl)) (pgs_cons (pg_name (i := 5) sc_law_lines.nd rfl (Or.inl rfl)) pgs_nil)))))
        (pss_cons (ps_if (pt_not (pt_val (pe_call (ok_law_rows T) (hr.mono (by decide)) (by rfl) T.g_law_rows T.F_law_rows.kp T.b_law_rows .nil pass0 (pa_cons (pv 1) (pa_cons (pe_call (ok_rows_of T) (hr.mono (by decide)) (by rfl) T.g_rows_of T.F_rows_of.kp T.b_rows_of .nil pass0 (pa_cons (pv 1) pa_nil)) (pa_cons (pv 3) pa_nil)))))) (pss_one (ps_ret pe_bl)) pss_nil)
        (pss_cons (ps_setLc (i := 6) (own := [("_law_k", 15)]) (g := (gName 15)) rfl sc_law_lines.nd rfl rfl (sw_true rfl rfl rfl (by decide +kernel)) (pi_range1 (by rfl) T.n_range (pa_cons (pe_op op_addU (pe_callB call_lenU (by rfl) T.n_len (by decide +kernel) (pa_cons (pv 1) pa_nil)) pe_int) pa_nil)) (blkOk_by (N := N_law_lines) (sc := defScope s_law_lines) (by decide +kernel)) (fun _ _ _ _ _ => pg_name (i := 15) sc_law_lines.nd rfl (Or.inl rfl)) (fun _ _ _ _ _ => pts_nil) (fun _ _ _ _ _ => (pv 15)))
        (pss_cons (ps_setLc (i := 7) (own := [("_law_k", 15)]) (g := (gName 15)) rfl sc_law_lines.nd rfl rfl (sw_true rfl rfl rfl (by decide +kernel)) (pi_range1 (by rfl) T.n_range (pa_cons (pe_callB call_lenU (by rfl) T.n_len (by decide +kernel) (pa_cons (pv 3) pa_nil)) pa_nil)) (blkOk_by (N := N_law_lines) (sc := defScope s_law_lines) (by decide +kernel)) (fun _ _ _ _ _ => pg_name (i := 15) sc_law_lines.nd rfl (Or.inl rfl)) (fun _ _ _ _ _ => pts_nil) (fun _ _ _ _ _ => (pv 15)))
        (Evl.pss_cut (ps_if (pt_not (pt_val (pv 2))) (pss_cons (ps_set (i := 6) sc_law_lines.nd rfl (Or.inl rfl) (pe_op op_addU (pe_lc (own := [("_law_k", 15)]) (g := gName 15) rfl sc_law_lines.nd (pi_range1 (by rfl) T.n_range (pa_cons pe_int pa_nil)) (blkOk_by (N := N_law_lines) (sc := defScope s_law_lines) (by decide +kernel)) (fun _ _ _ _ _ => pg_name (i := 15) sc_law_lines.nd rfl (Or.inl rfl)) (fun _ _ _ _ _ => pts_nil) (fun _ _ _ _ _ => (pe_call (ok_law_draw T) (hr.mono (by decide)) (by rfl) T.g_law_draw T.F_law_draw.kp T.b_law_draw .nil pass0 (pa_cons (pv 0) (pa_cons (pe_op (k_add (K := K) rfl) (pe_callB (k_len (K := K) rfl) (by rfl) T.n_len (by decide +kernel) (pa_cons (pv 1) pa_nil)) pe_int) pa_nil))))) (pe_lst (pa_cons (pe_callB call_lenU (by rfl) T.n_len (by decide +kernel) (pa_cons (pv 1) pa_nil)) (pa_cons pe_int pa_nil)))))
        (pss_one (ps_set (i := 7) sc_law_lines.nd rfl (Or.inl rfl) (pe_op op_addU (pe_lc (own := [("_law_k", 15)]) (g := gName 15) rfl sc_law_lines.nd (pi_range1 (by rfl) T.n_range (pa_cons pe_int pa_nil)) (blkOk_by (N := N_law_lines) (sc := defScope s_law_lines) (by decide +kernel)) (fun _ _ _ _ _ => pg_name (i := 15) sc_law_lines.nd rfl (Or.inl rfl)) (fun _ _ _ _ _ => pts_nil) (fun _ _ _ _ _ => (pe_call (ok_law_draw T) (hr.mono (by decide)) (by rfl) T.g_law_draw T.F_law_draw.kp T.b_law_draw .nil pass0 (pa_cons (pv 0) (pa_cons (pe_callB (k_len (K := K) rfl) (by rfl) T.n_len (by decide +kernel) (pa_cons (pv 3) pa_nil)) pa_nil))))) (pe_lst (pa_cons (pe_op op_sub (pe_callB call_lenU (by rfl) T.n_len (by decide +kernel) (pa_cons (pv 3) pa_nil)) pe_int) pa_nil)))))) pss_nil)
        (pss_cons (ps_for PassesOwn.never rfl (pi_list (pv 6)) (pg_name (i := 8) sc_law_lines.nd rfl (Or.inl rfl)) (pss_cons (ps_set (i := 9) sc_law_lines.nd rfl (Or.inl rfl) (pe_call (ok_spot_of T) (hr.mono (by decide)) (by rfl) T.g_spot_of T.F_spot_of.kp T.b_spot_of .nil passL (pa_cons (pv 1) (pa_cons (pv 8) pa_nil))))
        (pss_one (ps_if (PW.pt (pw_or (pt_not (pt_val (pe_call (ok_law_pair T) (hr.mono (by decide)) (by rfl) T.g_law_pair T.F_law_pair.kp T.b_law_pair .nil pass0 (pa_cons (pe_ix ix_seq (pv 4) (pv 8) (fun _ _ => rfl)) (pa_cons (pv 9) pa_nil))))) (pw_or1 (pt_not (pt_val (pe_call (ok_law_is T) (hr.mono (by decide)) (by rfl) T.g_law_is T.F_law_is.kp T.b_law_is .nil pass0 (pa_cons (pv 8) (pa_cons (pe_call (ok_place_of T) (hr.mono (by decide)) (by rfl) T.g_place_of T.F_place_of.kp T.b_place_of .nil Hn.passN (pa_cons (pv 1) (pa_cons (pe_ix ix_seq (pv 9) pe_int (fun _ _ => rfl)) (pa_cons (pe_ix ix_seq (pv 9) pe_int (fun _ _ => rfl)) pa_nil)))) pa_nil)))))))) (pss_one (ps_ret pe_bl)) pss_nil))))
        (pss_cons (ps_for PassesOwn.never rfl (pi_list (pv 7)) (pg_name (i := 10) sc_law_lines.nd rfl (Or.inl rfl)) (pss_cons (ps_set (i := 11) sc_law_lines.nd rfl (Or.inl rfl) (pe_callB call_lenU (by rfl) T.n_len (by decide +kernel) (pa_cons (pe_ix ix_seq (pv 3) (pv 10) (fun _ _ => rfl)) pa_nil)))
        (pss_cons (ps_if (pt_not (pt_val (pe_call (ok_law_pair T) (hr.mono (by decide)) (by rfl) T.g_law_pair T.F_law_pair.kp T.b_law_pair .nil pass0 (pa_cons (pe_tup (pa_cons (pe_ix ix_seq (pv 5) (pv 10) (fun _ _ => rfl)) (pa_cons (pe_op op_addU (pe_ix ix_seq (pv 5) (pv 10) (fun _ _ => rfl)) (pv 11)) pa_nil))) (pa_cons (pe_call (ok_row_bounds T) (hr.mono (by decide)) (by rfl) T.g_row_bounds T.F_row_bounds.kp T.b_row_bounds .nil Hn.passN (pa_cons (pv 1) (pa_cons (pv 10) pa_nil))) pa_nil))))) (pss_one (ps_ret pe_bl)) pss_nil)
        (pss_one (ps_for PassesOwn.never rfl (pi_list (pe_lst (pa_cons pe_int (pa_cons (pv 11) (pa_cons (pe_op op_addU (pv 11) pe_int) (pa_cons (pe_call (ok_law_draw T) (hr.mono (by decide)) (by rfl) T.g_law_draw T.F_law_draw.kp T.b_law_draw .nil pass0 (pa_cons (pv 0) (pa_cons (pe_op op_addU (pv 11) pe_int) pa_nil))) (pa_cons (pe_op op_addU (pe_op op_addU (pv 11) pe_int) (pe_call (ok_law_draw T) (hr.mono (by decide)) (by rfl) T.g_law_draw T.F_law_draw.kp T.b_law_draw .nil pass0 (pa_cons (pv 0) (pa_cons pe_int pa_nil)))) (pa_cons pe_int pa_nil)))))))) (pg_name (i := 12) sc_law_lines.nd rfl (Or.inl rfl)) (pss_one (ps_if (pt_not (pt_val (pe_call (ok_law_is T) (hr.mono (by decide)) (by rfl) T.g_law_is T.F_law_is.kp T.b_law_is .nil pass0 (pa_cons (pe_op op_addU (pe_ix ix_seq (pv 5) (pv 10) (fun _ _ => rfl)) (pe_callB (call_minU rfl) (by rfl) T.n_min (by decide +kernel) (pa_cons (pv 12) (pa_cons (pv 11) pa_nil)))) (pa_cons (pe_call (ok_place_of T) (hr.mono (by decide)) (by rfl) T.g_place_of T.F_place_of.kp T.b_place_of .nil Hn.passN (pa_cons (pv 1) (pa_cons (pv 10) (pa_cons (pv 12) pa_nil)))) pa_nil))))) (pss_one (ps_ret pe_bl)) pss_nil)))))))
        (pss_cons (ps_set (i := 13) sc_law_lines.nd rfl (Or.inl rfl) (pe_op op_addU pe_int (pe_call (ok_law_draw T) (hr.mono (by decide)) (by rfl) T.g_law_draw T.F_law_draw.kp T.b_law_draw .nil pass0 (pa_cons (pv 0) (pa_cons pe_int pa_nil)))))
        (pss_cons (ps_for PassesOwn.never rfl (pi_list (pe_lst (pa_cons pe_int (pa_cons pe_int (pa_cons (pv 13) (pa_cons (pe_op op_sub pe_int (pe_callB call_lenU (by rfl) T.n_len (by decide +kernel) (pa_cons (pv 1) pa_nil))) pa_nil)))))) (pg_name (i := 14) sc_law_lines.nd rfl (Or.inl rfl)) (pss_one (ps_if (pt_not (pt_val (pe_call (ok_law_refused_spot T) (hr.mono (by decide)) (by rfl) T.g_law_refused_spot T.F_law_refused_spot.kp T.b_law_refused_spot .nil pass0 (pa_cons (pv 1) (pa_cons (pe_op op_addU (pe_callB call_lenU (by rfl) T.n_len (by decide +kernel) (pa_cons (pv 1) pa_nil)) (pv 14)) pa_nil))))) (pss_one (ps_ret pe_bl)) pss_nil)))
        (pss_cons (ps_for PassesOwn.never rfl (pi_list (pe_lst (pa_cons pe_int (pa_cons pe_int (pa_cons (pv 13) (pa_cons (pe_op op_sub pe_int (pe_callB call_lenU (by rfl) T.n_len (by decide +kernel) (pa_cons (pv 3) pa_nil))) pa_nil)))))) (pg_name (i := 14) sc_law_lines.nd rfl (Or.inl rfl)) (pss_one (ps_if (pt_not (pt_val (pe_call (ok_law_refused_line T) hr (by rfl) T.g_law_refused_line T.F_law_refused_line.kp T.b_law_refused_line .nil pass0 (pa_cons (pv 1) (pa_cons (pe_op op_addU (pe_callB call_lenU (by rfl) T.n_len (by decide +kernel) (pa_cons (pv 3) pa_nil)) (pv 14)) pa_nil))))) (pss_one (ps_ret pe_bl)) pss_nil)))
        (pss_one (ps_ret pe_bl)))))))))))), ?_⟩
    have zl : z.length ≤ sizeLine := by rw [sizeLine_eq]; omega
    have rlen : (rows z).length ≤ 6000 := by
      have := PyProof.Rows.split_le z NL
      have := rl_len z
      have := sum_rows z
      omega
    have rpos := rows_pos z
    walk_at "rd"
    refine ⟨z, rfl, by omega, fun L R S B xs H1 e1 fR fS fB gL gR gS gp gB => ?_⟩
    have hneq : ∀ {x : Addr}, H x = none → ¬ (cell a).A x := fun h => (cell a).fresh hs h
    have nR := hneq fR
    have nS := hneq fS
    have nB := hneq fB
    have s1 := hs.up e1
    walk_at "rd"
    refine r_gunl (sqL gL) rfl ?_
    walk_at "rd"
    refine ⟨z, rfl, by omega, fun p H2 e2 hp => ?_⟩
    walk_at "rd"
    refine ⟨z, p, R, rw' z, rfl, hp, e2 _ _ gR, by rw [← rl_len]; omega, by rw [sum_rows]; omega, join_rows z, ?_⟩
    have e02 := e1.trans e2
    have s2 := s1.up e2
    have gR := e2 _ _ gR
    have gS := e2 _ _ gS
    have gB := e2 _ _ gB
    have gp := prl_imm (Tk.ex e2) gp
    walk_at "rd"
    refine r_lenS zl ?_
    walk_at "rd"
    refine l_lcR (by omega) (by omega) (fun C i H3 => Ex H2 H3 ∧ H3 C = some (.lst (natL (List.range i)))) (fun C hC => ⟨Same.new (Same.refl _) hC, upd_same⟩) (fun C i H3 hC hi hP => ?_) (fun p1 H3 hC hP => ?_)
    · obtain ⟨e, gC⟩ := hP
      walk_at "rd"
      refine ⟨rfl, ?_⟩
      walk_at "rd"
      refine ⟨_, gC, by unfold natL; rw [List.length_map, List.length_range]; exact Nat.lt_of_le_of_lt (show i ≤ 6000 by omega) (by decide), Same.mut e hC, ?_⟩
      rw [upd_same, List.range_succ]
      unfold natL
      rw [List.map_append]
      rfl
    · obtain ⟨e3, gp1⟩ := hP
      have np1 : ¬ (cell a).A p1 := hneq (e02.free hC)
      walk_at "rd"
      refine r_lenL (sqL (e3 _ _ gR)) ?_
      rw [List.length_map, ← rl_len]
      walk_at "rd"
      refine l_lcR (by omega) (by omega) (fun C i H4 => Ex H3 H4 ∧ H4 C = some (.lst (natL (List.range i)))) (fun C hC => ⟨Same.new (Same.refl _) hC, upd_same⟩) (fun C i H4 hC hi hP => ?_) (fun l1 H4 hC2 hP => ?_)
      · obtain ⟨e, gC⟩ := hP
        walk_at "rd"
        refine ⟨rfl, ?_⟩
        walk_at "rd"
        refine ⟨_, gC, by unfold natL; rw [List.length_map, List.length_range]; exact Nat.lt_of_le_of_lt (show i ≤ 6000 by omega) (by decide), Same.mut e hC, ?_⟩
        rw [upd_same, List.range_succ]
        unfold natL
        rw [List.map_append]
        rfl
      · obtain ⟨e4, gl1⟩ := hP
        have nl1 : ¬ (cell a).A l1 := hneq ((e02.trans e3).free hC2)
        walk_at "rs"
        have e24 := e3.trans e4
        have gR := e24 _ _ gR
        have gS := e24 _ _ gS
        have gB := e24 _ _ gB
        have gp := prl_imm (Tk.ex e24) gp
        have gp1 := e4 _ _ gp1
        have s4 := s2.up e24
        have D4 : Drw (cell a) H H4 := .ex hs (e02.trans e24)
        refine ⟨fun σ' H' => ∃ y8 y9 y10 y11 y12 y13 y14 y15 p2 l2 ms js, σ' = [some (.ref a), some (.str z), some (.bl ev), some (.ref R), some (.ref S), some (.ref B), some (.ref p2), some (.ref l2), y8, y9, y10, y11, y12, y13, y14, y15] ∧ Drw (cell a) H4 H' ∧
          p2 ≠ a ∧ l2 ≠ a ∧ H' p2 = some (.lst (natL ms)) ∧ H' l2 = some (.lst (natL js)) ∧ (∀ k ∈ ms, k ≤ z.length) ∧ (∀ j ∈ js, j < (rows z).length), ?_, ?_⟩
        · walk_at "rd"
          cases ev with
          | true =>
            walk_at "rd"
            exact ⟨_, _, _, _, _, _, _, _, p1, l1, _, _, rfl, .refl s4, np1, nl1, gp1, gl1, fun k hk => by have := List.mem_range.mp hk; omega, fun j hj => by have := List.mem_range.mp hj; omega⟩
          | false =>
            walk_at "rd"
            refine l_lcR (by decide) (by decide) (fun C i H5 => Drw (cell a) H4 H5 ∧ ∃ ms : List Nat, H5 C = some (.lst (natL ms)) ∧ ms.length = i ∧ ∀ k ∈ ms, k ≤ z.length) (fun C hC => ⟨(Drw.refl s4).new hC, [], upd_same, rfl, fun _ h => nomatch h⟩) (fun C i H5 hC hi hP => ?_) (fun p3 H5 hC hP => ?_)
            · obtain ⟨D5, ms, gC, hl, hm⟩ := hP
              have na := (cell a).fresh s4 hC
              walk_at "rd"
              refine ⟨rfl, ?_⟩
              walk_at "rd"
              refine r_lenS zl ?_
              walk_at "rd"
              refine ⟨a, _, rfl, D5.st, by omega, fun k H6 hk D6 => ?_⟩
              refine ⟨_, D6.at na gC, by unfold natL; rw [List.length_map, hl]; exact Nat.lt_of_le_of_lt (show i ≤ 20 by omega) (by decide), (D5.trans D6).put hC na, ms ++ [k], by rw [upd_same]; unfold natL; rw [List.map_append]; rfl, by rw [List.length_append, hl]; rfl, fun x hx => ?_⟩
              rcases List.mem_append.mp hx with h | h
              · exact hm x h
              · rw [List.mem_singleton.mp h]; omega
            · obtain ⟨D5, ms, gC, hl, hm⟩ := hP
              walk_at "rd"
              refine r_lenS zl ?_
              walk_at "rd"
              refine r_small nsz fun t ht => ?_
              obtain ⟨H6, eH6, x6, g6⟩ := new1 ht (.lst [.int (z.length : Nat), .int 0])
              rw [← eH6]
              refine r_addL (x6 _ _ gC) g6 (by rw [sizeLine_eq]; unfold natL; rw [List.length_map, hl]; show 20 + 2 ≤ _; decide) fun p4 hp4 => ?_
              obtain ⟨H7, eH7, x7, g7⟩ := new1 hp4 (.lst (natL ms ++ [.int (z.length : Nat), .int 0]))
              rw [← eH7]
              have D7 := D5.then (x6.trans x7)
              have np4 : p4 ≠ a := (cell a).fresh (D5.then x6).st hp4
              walk_at "rd"
              refine l_lcR (by decide) (by decide) (fun C i H8 => Drw (cell a) H7 H8 ∧ ∃ ms : List Nat, H8 C = some (.lst (natL ms)) ∧ ms.length = i ∧ ∀ k ∈ ms, k < (rows z).length) (fun C hC => ⟨(Drw.refl D7.st).new hC, [], upd_same, rfl, fun _ h => nomatch h⟩) (fun C i H8 hC hi hP => ?_) (fun l3 H8 hC2 hP => ?_)
              · obtain ⟨D8, ms, gC, hl, hm⟩ := hP
                have na := (cell a).fresh D7.st hC
                have gR8 := D8.at nR (D7.at nR gR)
                walk_at "rd"
                refine ⟨rfl, ?_⟩
                walk_at "rd"
                refine r_lenL (sqL gR8) ?_
                rw [List.length_map, ← rl_len]
                walk_at "rd"
                refine ⟨a, _, rfl, D8.st, by omega, fun k H9 hk D9 => ?_⟩
                refine ⟨_, D9.at na gC, by unfold natL; rw [List.length_map, hl]; exact Nat.lt_of_le_of_lt (show i ≤ 20 by omega) (by decide), (D8.trans D9).put hC na, ms ++ [k], by rw [upd_same]; unfold natL; rw [List.map_append]; rfl, by rw [List.length_append, hl]; rfl, fun x hx => ?_⟩
                rcases List.mem_append.mp hx with h | h
                · exact hm x h
                · rw [List.mem_singleton.mp h]; omega
              · obtain ⟨D8, js, gC2, hl2, hj⟩ := hP
                have gR8 := D8.at nR (D7.at nR gR)
                walk_at "rd"
                refine r_lenL (sqL gR8) ?_
                rw [List.length_map, ← rl_len]
                walk_at "rd"
                refine r_small nsz fun t2 ht2 => ?_
                obtain ⟨H9, eH9, x9, g9⟩ := new1 ht2 (.lst [.int (((rows z).length : Nat) - 1)])
                rw [← eH9]
                refine r_addL (x9 _ _ gC2) g9 (by rw [sizeLine_eq]; unfold natL; rw [List.length_map, hl2]; show 12 + 1 ≤ _; decide) fun l4 hl4 => ?_
                obtain ⟨H10, eH10, x10, g10⟩ := new1 hl4 (.lst (natL js ++ [.int (((rows z).length : Nat) - 1)]))
                rw [← eH10]
                have D10 := D8.then (x9.trans x10)
                have nl4 : l4 ≠ a := (cell a).fresh (D8.then x9).st hl4
                walk_at "rd"
                refine ⟨_, _, _, _, _, _, _, _, p4, l4, ms ++ [z.length, 0], js ++ [(rows z).length - 1], rfl, D7.trans D10, np4, nl4, ?_, ?_, fun k hk => ?_, fun j hj' => ?_⟩
                · rw [D10.at np4 g7]
                  unfold natL
                  rw [List.map_append]
                  rfl
                · rw [g10]
                  unfold natL
                  rw [List.map_append]
                  show some (HO.lst (_ ++ [V.int _])) = some (HO.lst (_ ++ [V.int _]))
                  rw [show (((rows z).length : Nat) : Int) - 1 = (((rows z).length - 1 : Nat) : Int) by omega]
                · rcases List.mem_append.mp hk with h | h
                  · exact hm k h
                  · simp only [List.mem_cons, List.not_mem_nil, or_false] at h
                    omega
                · rcases List.mem_append.mp hj' with h | h
                  · exact hj j h
                  · rw [List.mem_singleton.mp h]; omega
        · rintro σ' H0 ⟨y8, y9, y10, y11, y12, y13, y14, y15, p2, l2, ms, js, rfl, D0, np2, nl2, gp2, gl2, hms, hjs⟩
          have gR := D0.at nR gR
          have gS := D0.at nS gS
          have gB := D0.at nB gB
          have gp := prl_imm (drw_tk s4 D0) gp
          have DH := D4.trans D0
          have gp0 := gp.len
          walk_at "rd"
          refine l_L (sqL gp2) (fun i σ H' => ∃ y8 y9 y10 y11 y12 y13 y14 y15, σ = [some (.ref a), some (.str z), some (.bl ev), some (.ref R), some (.ref S), some (.ref B), some (.ref p2), some (.ref l2), y8, y9, y10, y11, y12, y13, y14, y15] ∧ Drw (cell a) H0 H') ⟨_, _, _, _, _, _, _, _, rfl, .refl D0.st⟩ (fun i σ H' h => ?_) (fun i x σ H' hx hP => ?_) (fun σ H' hP => ?_)
          · obtain ⟨_, _, _, _, _, _, _, _, _, D⟩ := h
            exact sqL (D.at np2 gp2)
          · obtain ⟨y8, y9, y10, y11, y12, y13, y14, y15, rfl, D⟩ := hP
            obtain ⟨k, hk, rfl⟩ : ∃ k : Nat, ms[i]? = some k ∧ x = V.int (k : Nat) := by
              unfold natL at hx
              rw [List.getElem?_map] at hx
              cases e : ms[i]? with
              | none => rw [e] at hx; cases hx
              | some c => rw [e] at hx; exact ⟨c, rfl, (Option.some.inj hx).symm⟩
            have hkl := hms k (List.mem_of_getElem? hk)
            obtain ⟨pf1, pf2, pf3, _⟩ := place_facts hkl
            obtain ⟨vk, hvk, hpk⟩ := gp.get' (spots_at (z := z) (n := z.length + 1) (k := k) (by omega))
            have tk := drw_tk D0.st D
            walk_at "rd"
            refine ⟨z, k, rfl, by omega, fun _ v H5 e5 hv => ?_, fun h => absurd h (by omega)⟩
            walk_at "rd"
            refine r_ixL (sqL (e5 _ _ (D.at nS gS))) (atI_nat hvk) ?_
            walk_at "rd"
            refine ⟨vk, v, _, rfl, imm (tk.trans (Tk.ex e5)) hpk, hv, ?_⟩
            obtain ⟨pv', rfl, hpv⟩ := hv
            walk_at "rd"
            refine r_ixT (sqT hpv) (atI_nat (j := 0) rfl) ?_
            walk_at "rd"
            refine r_ixT (sqT hpv) (atI_nat (j := 1) rfl) ?_
            walk_at "rd"
            refine ⟨z, li z k, co z k, rfl, by omega, fun _ H6 e6 => ?_, fun h => absurd pf1 (by omega)⟩
            rw [show bg z (li z k) + min (co z k) (wd z (li z k)) = k by unfold co; omega]
            walk_at "rd"
            refine ⟨(k : Nat), rfl, ?_⟩
            walk_at "rd"
            exact ⟨_, _, _, _, _, _, _, _, rfl, D.then (e5.trans e6)⟩
          obtain ⟨y8, y9, y10, y11, y12, y13, y14, y15, rfl, D⟩ := hP
          have gR := D.at nR gR
          have gB := D.at nB gB
          have gl2 := D.at nl2 gl2
          have DH := DH.trans D
          clear gS gp
          walk_at "rd"
          refine l_L (sqL gl2) (fun i σ H'' => ∃ y8 y9 y10 y11 y12 y13 y14 y15, σ = [some (.ref a), some (.str z), some (.bl ev), some (.ref R), some (.ref S), some (.ref B), some (.ref p2), some (.ref l2), y8, y9, y10, y11, y12, y13, y14, y15] ∧ Drw (cell a) H' H'') ⟨_, _, _, _, _, _, _, _, rfl, .refl D.st⟩ (fun i σ H'' h => ?_) (fun i x σ H'' hx hP => ?_) (fun σ H'' hP => ?_)
          · obtain ⟨_, _, _, _, _, _, _, _, _, D2⟩ := h
            exact sqL (D2.at nl2 gl2)
          · obtain ⟨y8, y9, y10, y11, y12, y13, y14, y15, rfl, D2⟩ := hP
            obtain ⟨j, hj0, rfl⟩ : ∃ j : Nat, js[i]? = some j ∧ x = V.int (j : Nat) := by
              unfold natL at hx
              rw [List.getElem?_map] at hx
              cases e : js[i]? with
              | none => rw [e] at hx; cases hx
              | some c => rw [e] at hx; exact ⟨c, rfl, (Option.some.inj hx).symm⟩
            have hj := hjs j (List.mem_of_getElem? hj0)
            obtain ⟨r, hr'⟩ := rw_at hj
            have hrl := (row_text hr').2
            have hw := bg_in hj
            have hrs : ((rw' z).map V.str)[j]? = some (V.str r) := by rw [List.getElem?_map, hr']; rfl
            walk_at "rd"
            refine r_ixL (sqL (D2.at nR gR)) (atI_nat hrs) ?_
            walk_at "rd"
            refine r_lenS (by rw [sizeLine_eq]; omega) ?_
            rw [hrl]
            walk_at "rd"
            refine r_ixL (sqL (D2.at nB gB)) (atI_nat (bgs_at hj)) ?_
            walk_at "rd"
            refine r_ixL (sqL (D2.at nB gB)) (atI_nat (bgs_at hj)) ?_
            walk_at "rd"
            rw [show ((bg z j : Nat) : Int) + (wd z j : Nat) = ((bg z j + wd z j : Nat) : Int) by omega]
            refine r_small nsz fun t ht => ?_
            obtain ⟨H5, eH5, x5, g5⟩ := newPr ht (bg z j : Nat) ((bg z j + wd z j : Nat) : Int)
            rw [← eH5]
            walk_at "rd"
            refine ⟨z, j, rfl, by omega, fun _ v H6 e6 hv => ?_, fun h => absurd h (by omega)⟩
            walk_at "rd"
            refine ⟨_, v, _, rfl, imm (Tk.ex e6) g5, hv, ?_⟩
            have D6 := D2.then (x5.trans e6)
            walk_at "rd"
            refine ⟨a, _, rfl, D6.st, by omega, fun c1 H7 hc1 D7 => ?_⟩
            walk_at "rd"
            refine ⟨a, 900, rfl, D7.st, by decide, fun c2 H8 hc2 D8 => ?_⟩
            have D8 := (D6.trans D7).trans D8
            walk_at "rd"
            obtain ⟨cl, ecl, ncl, hcl⟩ : ∃ cl, cl = [V.int 0, V.int ((wd z j : Nat) : Int), V.int (((wd z j : Nat) : Int) + 1), V.int ((c1 : Nat) : Int), V.int (((wd z j : Nat) : Int) + 2 + ((c2 : Nat) : Int)), V.int 1000000000] ∧ cl.length ≤ 6 ∧ ∀ x ∈ cl, ∃ m : Nat, x = V.int (m : Nat) := by
              refine ⟨_, rfl, Nat.le_refl _, ?_⟩
              refine List.forall_mem_cons.mpr ⟨⟨0, rfl⟩, List.forall_mem_cons.mpr ⟨⟨_, rfl⟩, List.forall_mem_cons.mpr ⟨⟨wd z j + 1, rfl⟩, List.forall_mem_cons.mpr ⟨⟨_, rfl⟩, List.forall_mem_cons.mpr ⟨⟨wd z j + 2 + c2, rfl⟩, List.forall_mem_cons.mpr ⟨⟨1000000000, rfl⟩, fun _ h => nomatch h⟩⟩⟩⟩⟩⟩
            rw [← ecl]
            refine r_small (by omega) fun q1 hq1 => ?_
            obtain ⟨H9, eH9, x9, g9⟩ := new1 hq1 (.lst cl)
            rw [← eH9]
            have nq1 : ¬ (cell a).A q1 := (cell a).fresh D8.st hq1
            have D9 := D8.then x9
            refine l_L (sqL g9) (fun i σ H3 => ∃ y8 y9 y12 y13 y14 y15, σ = [some (.ref a), some (.str z), some (.bl ev), some (.ref R), some (.ref S), some (.ref B), some (.ref p2), some (.ref l2), y8, y9, some (.int (j : Nat)), some (.int (wd z j : Nat)), y12, y13, y14, y15] ∧ Ex H9 H3) ⟨_, _, _, _, _, _, rfl, Same.refl _⟩ (fun i σ H3 h => ?_) (fun i x σ H3 hx hP => ?_) (fun σ H3 hP => ?_)
            · obtain ⟨_, _, _, _, _, _, _, e⟩ := h
              exact sqL (e _ _ g9)
            · obtain ⟨y8, y9, y12, y13, y14, y15, rfl, e⟩ := hP
              obtain ⟨m, rfl⟩ := hcl x (List.mem_of_getElem? hx)
              walk_at "rd"
              refine r_ixL (sqL (e _ _ (D9.at nB gB))) (atI_nat (bgs_at hj)) ?_
              walk_at "rd"
              refine ⟨z, j, m, rfl, by omega, fun _ H4 e4 => ?_, fun h => absurd h (by omega)⟩
              walk_at "rd"
              refine ⟨((bg z j + min m (wd z j) : Nat) : Int), by rw [show ((bg z j : Nat) : Int) + min ((m : Nat) : Int) ((wd z j : Nat) : Int) = ((bg z j + min m (wd z j) : Nat) : Int) by omega]; rfl, ?_⟩
              walk_at "rd"
              exact ⟨_, _, _, _, _, _, rfl, e.trans e4⟩
            · obtain ⟨y8, y9, y12, y13, y14, y15, rfl, e⟩ := hP
              exact ⟨_, _, _, _, _, _, _, _, rfl, D9.then e⟩
          · obtain ⟨y8, y9, y10, y11, y12, y13, y14, y15, rfl, D2⟩ := hP
            have DH := DH.trans D2
            have gR := D2.at nR gR
            walk_at "rd"
            refine ⟨a, 900, rfl, DH.st, by decide, fun f H5 hf D5 => ?_⟩
            have DH := DH.trans D5
            have gR := D5.at nR gR
            walk_at "rd"
            refine r_lenS zl ?_
            walk_at "rd"
            obtain ⟨cl, ecl, ncl, hcl⟩ : ∃ cl, cl = [V.int 1, V.int 2, V.int (1 + ((f : Nat) : Int)), V.int (1000000000 - ((z.length : Nat) : Int))] ∧ cl.length ≤ 6 ∧ ∀ x ∈ cl, ∃ m : Nat, x = V.int (m : Nat) ∧ 1 ≤ m := by
              refine ⟨_, rfl, (by show 4 ≤ 6; decide), ?_⟩
              refine List.forall_mem_cons.mpr ⟨⟨1, rfl, by decide⟩, List.forall_mem_cons.mpr ⟨⟨2, rfl, by decide⟩, List.forall_mem_cons.mpr ⟨⟨1 + f, by congr 1, by omega⟩, List.forall_mem_cons.mpr ⟨⟨1000000000 - z.length, by congr 1; omega, by omega⟩, fun _ h => nomatch h⟩⟩⟩⟩
            rw [← ecl]
            refine r_small (by omega) fun q1 hq1 => ?_
            obtain ⟨H6, eH6, x6, g6⟩ := new1 hq1 (.lst cl)
            rw [← eH6]
            refine l_L (sqL g6) (fun i σ H3 => ∃ y8 y9 y10 y11 y12 y14 y15, σ = [some (.ref a), some (.str z), some (.bl ev), some (.ref R), some (.ref S), some (.ref B), some (.ref p2), some (.ref l2), y8, y9, y10, y11, y12, some (.int (1 + ((f : Nat) : Int))), y14, y15] ∧ Ex H6 H3) ⟨_, _, _, _, _, _, _, rfl, Same.refl _⟩ (fun i σ H3 h => ?_) (fun i x σ H3 hx hP => ?_) (fun σ H3 hP => ?_)
            · obtain ⟨_, _, _, _, _, _, _, _, e⟩ := h
              exact sqL (e _ _ g6)
            · obtain ⟨y8, y9, y10, y11, y12, y14, y15, rfl, e⟩ := hP
              obtain ⟨m, rfl, m1⟩ := hcl x (List.mem_of_getElem? hx)
              walk_at "rd"
              refine r_lenS zl ?_
              walk_at "rd"
              refine ⟨z, z.length + m, by rw [show ((z.length + m : Nat) : Int) = ((z.length : Nat) : Int) + ((m : Nat) : Int) by omega]; rfl, by omega, by omega, fun H4 e4 => ?_⟩
              walk_at "rd"
              exact ⟨_, _, _, _, _, _, _, rfl, e.trans e4⟩
            · obtain ⟨y8, y9, y10, y11, y12, y14, y15, rfl, e6⟩ := hP
              have DH := DH.then (x6.trans e6)
              have gR := e6 _ _ (x6 _ _ gR)
              walk_at "rd"
              refine r_lenL (sqL gR) ?_
              rw [List.length_map, ← rl_len]
              walk_at "rd"
              obtain ⟨cm, ecm, ncm, hcm⟩ : ∃ cm, cm = [V.int 0, V.int 1, V.int (1 + ((f : Nat) : Int)), V.int (1000000000 - (((rows z).length : Nat) : Int))] ∧ cm.length ≤ 6 ∧ ∀ x ∈ cm, ∃ m : Nat, x = V.int (m : Nat) := by
                refine ⟨_, rfl, (by show 4 ≤ 6; decide), ?_⟩
                refine List.forall_mem_cons.mpr ⟨⟨0, rfl⟩, List.forall_mem_cons.mpr ⟨⟨1, rfl⟩, List.forall_mem_cons.mpr ⟨⟨1 + f, by congr 1⟩, List.forall_mem_cons.mpr ⟨⟨1000000000 - (rows z).length, by congr 1; omega⟩, fun _ h => nomatch h⟩⟩⟩⟩
              rw [← ecm]
              refine r_small (by omega) fun q2 hq2 => ?_
              obtain ⟨H7, eH7, x7, g7⟩ := new1 hq2 (.lst cm)
              rw [← eH7]
              refine l_L (sqL g7) (fun i σ H4 => ∃ y8 y9 y10 y11 y12 y13 y14 y15, σ = [some (.ref a), some (.str z), some (.bl ev), some (.ref R), some (.ref S), some (.ref B), some (.ref p2), some (.ref l2), y8, y9, y10, y11, y12, y13, y14, y15] ∧ Ex H7 H4) ⟨_, _, _, _, _, _, _, _, rfl, Same.refl _⟩ (fun i σ H4 h => ?_) (fun i x σ H4 hx hP => ?_) (fun σ H4 hP => ?_)
              · obtain ⟨_, _, _, _, _, _, _, _, _, e⟩ := h
                exact sqL (e _ _ g7)
              · obtain ⟨y8, y9, y10, y11, y12, y13, y14, y15, rfl, e⟩ := hP
                obtain ⟨m, rfl⟩ := hcm x (List.mem_of_getElem? hx)
                walk_at "rd"
                refine r_lenL (sqL (e _ _ (x7 _ _ gR))) ?_
                rw [List.length_map, ← rl_len]
                walk_at "rd"
                refine ⟨z, (rows z).length + m, by rw [show (((rows z).length + m : Nat) : Int) = (((rows z).length : Nat) : Int) + ((m : Nat) : Int) by omega]; rfl, by omega, by omega, fun H5 e5 => ?_⟩
                walk_at "rd"
                exact ⟨_, _, _, _, _, _, _, _, rfl, e.trans e5⟩
              · obtain ⟨y8, y9, y10, y11, y12, y13, y14, y15, rfl, e⟩ := hP
                walk_at "rd"
                exact q _ (DH.then (x7.trans e))
end
end K17

namespace K17
open PySem PySem.Spec PyProof.Rows L2 Dk Q48
/-- one step of a reading -/
local macro_rules | `(tactic| walk_at "rd1") => `(tactic| first
  | ((with_reducible refine r_var (v := ?rv) ?rh ?_); (case rh => rfl))
  | with_reducible refine r_c ?_
  | with_reducible refine r_seq ?_
  | with_reducible refine r_asg ?_
  | with_reducible refine r_par ?_
  | with_reducible refine r_gname ?_
  | with_reducible refine r_op ?_
  | with_reducible refine r_forLo ?_
  | with_reducible refine r_forTo ?_
  | with_reducible refine r_forSo ?_
  | with_reducible refine r_forRo ?_
  | with_reducible refine r_forRvo ?_
  | with_reducible refine r_forZo ?_
  | with_reducible refine r_revS ?_
  | with_reducible refine r_lcRo ?_
  | with_reducible refine r_lcLo ?_
  | with_reducible refine r_yes ?_
  | with_reducible refine r_callK0 ?_
  | with_reducible refine r_break ?_
  | with_reducible refine r_continue ?_
  | with_reducible refine r_forR2o ?_
  | with_reducible refine r_forEo ?_
  | with_reducible refine r_forESo ?_
  | with_reducible refine r_xfo ?_
  | with_reducible refine r_noP ?_
  | with_reducible refine r_part ?_
  | with_reducible refine r_pI ?_
  | with_reducible refine r_gcons ?_
  | with_reducible refine r_gnil ?_
  | with_reducible refine r_mkO ?_
  | with_reducible refine r_un ?_
  | with_reducible refine r_addI ?_
  | with_reducible refine r_I0 ?_
  | with_reducible refine r_U ?_
  | with_reducible refine r_cons ?_
  | with_reducible refine r_nil ?_
  | with_reducible refine r_CB ?_
  | with_reducible refine r_call ?_
  | with_reducible refine r_callS ?_
  | with_reducible refine r_int ?_
  | with_reducible refine r_max ?_
  | with_reducible refine r_min ?_
  | with_reducible refine r_test ?_
  | with_reducible refine r_B ?_
  | with_reducible refine r_blv ?_
  | with_reducible refine r_and ?_
  | with_reducible refine r_or ?_
  | with_reducible refine r_not ?_
  | with_reducible refine r_andV ?_
  | with_reducible refine r_orV ?_
  | with_reducible refine r_notV ?_
  | with_reducible refine r_ifE ?_
  | with_reducible refine r_ifS ?_
  | with_reducible refine r_ret ?_
  | with_reducible refine r_retN ?_
  | with_reducible refine r_drop ?_
  | with_reducible refine r_next ?_
  | with_reducible refine r_sl ?_
  | with_reducible refine r_gsub ?_
  | with_reducible refine r_bm ?_
  | with_reducible refine r_bm0 ?_
  | with_reducible refine r_tup ?_
  | with_reducible refine r_lst ?_
  | with_reducible refine r_isN ?_
  | with_reducible refine r_notN ?_
  | with_reducible refine r_chain ?_
  | with_reducible refine r_callK ?_
  | with_reducible refine r_isB ?_
  | with_reducible refine r_lcEio ?_
  | with_reducible refine r_forEi ?_
  | with_reducible refine r_lcTo ?_
  | with_reducible refine r_lcSo ?_
  | with_reducible refine r_m1 ?_
  | with_reducible refine r_dget ?_
  | with_reducible refine r_din ?_
  | with_reducible refine r_dnotin ?_
  | with_reducible refine r_starC ?_
  | with_reducible refine r_callKS ?_
  | with_reducible refine r_itt ?_
  | with_reducible refine r_iff ?_
  | with_reducible refine r_ittN ?_
  | with_reducible refine r_iffN ?_
  | ((with_reducible refine r_ittD ?rh ?_); (case rh => rfl))
  | ((with_reducible refine r_iffD ?rh ?_); (case rh => rfl))
  | ((with_reducible refine r_modP ?rh ?_); (case rh => decide))
  | ((with_reducible refine r_eq ?rh ?_); (case rh => rfl))
  | ((with_reducible refine r_eqP ?rh ?_); (case rh => rfl))
  | ((with_reducible refine r_ne ?rh ?_); (case rh => rfl)))
local macro_rules | `(tactic| walk_at "rd") => `(tactic| repeat walk_at "rd1")
local macro_rules | `(tactic| walk_at "isi") => `(tactic| first | refine r_isi (b := true) (by assumption) (by decide +kernel) ?_ | refine r_isi (b := false) (by assumption) (by decide +kernel) ?_)
local macro_rules | `(tactic| walk_at "rs1") => `(tactic| first
  | with_reducible refine r_seq ?_
  | with_reducible refine r_asg ?_
  | with_reducible refine r_gname ?_
  | with_reducible refine r_ret ?_)
local macro_rules | `(tactic| walk_at "rs") => `(tactic| repeat walk_at "rs1")

theorem rep_cs (z : Str) : cs (Txt.replace z NL "") = (rows z).flatten := by
  rw [show (NL : Str) = ⟨#[10]⟩ from rfl, PySem.StrLaws.replace_one, ← eq_of_beq (PyProof.Rows.join_plain_closes _ _), cs_join]
  rfl
theorem rep_free (z : Str) : 10 ∉ cs (Txt.replace z NL "") := by
  rw [rep_cs]
  intro h
  obtain ⟨l, hl, h⟩ := List.mem_flatten.mp h
  exact rows_free z l hl h
theorem rep_len (z : Str) : (Txt.replace z NL "").length ≤ z.length := by
  rw [← cs_len, rep_cs, List.length_flatten]
  have h1 := sum_rows z
  have rs := rows_pos z
  have h2 := rl_len z
  have e : ((rows z).map List.length).sum = ((rw' z).map (·.length)).sum := by
    unfold rows
    rw [List.map_map]
    exact congrArg List.sum (List.map_congr_left fun a _ => cs_len a)
  rw [← e, ← rl_len] at h1
  omega
def sp_law (K : PySem.W.Frag) : Sp := fun vs H Q _ => ∃ (a : Addr) (ns : List Int), vs = [.ref a] ∧ SqL K H a (ns.map V.int) ∧ ns.length ≤ 63 ∧ ∀ H', Q (.bl true) H'
section
variable {P : Program} {w : World} {K : PySem.W.Frag} {mg : Str → Option Value} {base : Heap}
theorem ok_law (T : Txt K mg) : FnOk P w K mg base CX0 7 T.a_law T.d_law ["_law_script"] (sp_law K) := by
  refine T.F_law.ok sc_law (fun vs H Q E h => ?_) (fun cdv A outer s H vs Q E hr h => ?_)
  · obtain ⟨a, ns, rfl, _⟩ := h
    rfl
  · obtain ⟨sc, ns, rfl, hS, hlen, q⟩ := h
    refine ⟨_, (pss_cons (ps_set (i := 1) sc_law.nd rfl (Or.inr rfl) (pe_call (ok_law_start T) (hr.mono (by decide)) (by rfl) T.g_law_start T.F_law_start.kp T.b_law_start .nil pass0 (pa_cons (pv 0) pa_nil)))
        (pss_cons (ps_if (pt_not (pt_val (pe_call (ok_law_alphabet T) (hr.mono (by decide)) (by rfl) T.g_law_alphabet T.F_law_alphabet.kp T.b_law_alphabet .nil pass0 (pa_cons (pv 1) pa_nil)))) (pss_one (ps_ret pe_bl)) pss_nil)
        (pss_cons (ps_for PassesOwn.never rfl (pi_list (pe_call (ok_law_values T) (hr.mono (by decide)) (by rfl) T.g_law_values T.F_law_values.kp T.b_law_values .nil pass0 (pa_cons (pv 1) pa_nil))) (pg_name (i := 2) sc_law.nd rfl (Or.inl rfl)) (pss_one (ps_if (pt_not (pt_val (pe_call (ok_law_value T) (hr.mono (by decide)) (by rfl) T.g_law_value T.F_law_value.kp T.b_law_value .nil pass0 (pa_cons (pv 1) (pa_cons (pv 2) pa_nil))))) (pss_one (ps_ret pe_bl)) pss_nil)))
        (pss_cons (ps_set (i := 3) sc_law.nd rfl (Or.inl rfl) (pe_callTy call_tupU (by rfl) T.n_tuple (by decide +kernel) (pa_cons (pe_lc (own := [("_law_k", 6)]) (g := gName 6) rfl sc_law.nd (pi_range1 (by rfl) T.n_range (pa_cons (pe_op op_addU pe_int (pe_call (ok_law_draw T) (hr.mono (by decide)) (by rfl) T.g_law_draw T.F_law_draw.kp T.b_law_draw .nil pass0 (pa_cons (pv 1) (pa_cons pe_int pa_nil)))) pa_nil)) (blkOk_by (N := N_law) (sc := defScope s_law) (by decide +kernel)) (fun _ _ _ _ _ => pg_name (i := 6) sc_law.nd rfl (Or.inl rfl)) (fun _ _ _ _ _ => pts_nil) (fun _ _ _ _ _ => (pe_repl1 (pe1_call (ok_law_text T) (hr.mono (by decide)) (by rfl) T.g_law_text T.F_law_text.kp T.b_law_text .nil pass0 (pa1_later (pv 1) (pa1_here (pe1_call (ok_law_draw T) (hr.mono (by decide)) (by rfl) T.g_law_draw T.F_law_draw.kp T.b_law_draw .nil pass0 (pa1_later (pv 1) (pa1_here pe1_int pa_nil))) pa_nil)))))) pa_nil)))
        (pss_cons (ps_if (pt_not (pt_val (pe_call (ok_law_rows T) (hr.mono (by decide)) (by rfl) T.g_law_rows T.F_law_rows.kp T.b_law_rows .nil pass0 (pa_cons (pe_call (ok_joined T) (hr.mono (by decide)) (by rfl) T.g_joined T.F_joined.kp T.b_joined .nil pass0 (pa_cons (pv 3) pa_nil)) (pa_cons (pe_call (ok_rows_of T) (hr.mono (by decide)) (by rfl) T.g_rows_of T.F_rows_of.kp T.b_rows_of .nil pass0 (pa_cons (pe_call (ok_joined T) (hr.mono (by decide)) (by rfl) T.g_joined T.F_joined.kp T.b_joined .nil pass0 (pa_cons (pv 3) pa_nil)) pa_nil)) (pa_cons (pe_callTy call_listU (by rfl) T.n_list (by decide +kernel) (pa_cons (pv 3) pa_nil)) pa_nil)))))) (pss_one (ps_ret pe_bl)) pss_nil)
        (pss_cons (ps_if (pt_cmpR (op_neU hr.units) (pe_callB call_lenU (by rfl) T.n_len (by decide +kernel) (pa_cons (pe_lc (own := [("_law_c", 7)]) (g := gName 7) rfl sc_law.nd (pi_str (pe_call (ok_joined T) (hr.mono (by decide)) (by rfl) T.g_joined T.F_joined.kp T.b_joined .nil pass0 (pa_cons (pv 3) pa_nil))) (blkOk_by (N := N_law) (sc := defScope s_law) (by decide +kernel)) (fun _ _ _ _ _ => pg_name (i := 7) sc_law.nd rfl (Or.inl rfl)) (fun _ _ _ _ _ => (pts_one (pt_cmpR (k_eqU (K := K) rfl hr.units) (pv 7) pe_str (nomark _)))) (fun _ _ _ _ _ => (pv 7))) pa_nil)) (pe_op op_sub (pe_callB call_lenU (by rfl) T.n_len (by decide +kernel) (pa_cons (pv 3) pa_nil)) pe_int) (nomark _)) (pss_one (ps_ret pe_bl)) pss_nil)
        (pss_cons (ps_set (i := 4) sc_law.nd rfl (Or.inl rfl) (pe_call (ok_law_text T) (hr.mono (by decide)) (by rfl) T.g_law_text T.F_law_text.kp T.b_law_text .nil pass0 (pa_cons (pv 1) (pa_cons (pe_call (ok_law_draw T) (hr.mono (by decide)) (by rfl) T.g_law_draw T.F_law_draw.kp T.b_law_draw .nil pass0 (pa_cons (pv 1) (pa_cons pe_int pa_nil))) pa_nil))))
        (pss_cons (ps_if (PW.pt (pw_or (pt_not (pt_val (pe_call (ok_law_lines T) hr (by rfl) T.g_law_lines T.F_law_lines.kp T.b_law_lines .nil pass0 (pa_cons (pv 1) (pa_cons (pv 4) (pa_cons pe_bl pa_nil)))))) (pw_or1 (pt_not (pt_val (pe_call (ok_law_lines T) hr (by rfl) T.g_law_lines T.F_law_lines.kp T.b_law_lines .nil pass0 (pa_cons (pv 1) (pa_cons pe_str (pa_cons pe_bl pa_nil))))))))) (pss_one (ps_ret pe_bl)) pss_nil)
        (Evl.pss_cut (ps_if (pt_cmpR (op_eqU hr.units) (pe_call (ok_law_draw T) (hr.mono (by decide)) (by rfl) T.g_law_draw T.F_law_draw.kp T.b_law_draw .nil pass0 (pa_cons (pv 1) (pa_cons pe_int pa_nil))) pe_int (nomark _)) (pss_cons (ps_set (i := 5) sc_law.nd rfl (Or.inl rfl) (pe_call (ok_law_text T) (hr.mono (by decide)) (by rfl) T.g_law_text T.F_law_text.kp T.b_law_text .nil pass0 (pa_cons (pv 1) (pa_cons (pe_op op_addU pe_int (pe_call (ok_law_draw T) (hr.mono (by decide)) (by rfl) T.g_law_draw T.F_law_draw.kp T.b_law_draw .nil pass0 (pa_cons (pv 1) (pa_cons pe_int pa_nil)))) pa_nil))))
        (pss_one (ps_if (PW.pt (pw_or (pt_not (pt_val (pe_call (ok_law_lines T) hr (by rfl) T.g_law_lines T.F_law_lines.kp T.b_law_lines .nil pass0 (pa_cons (pv 1) (pa_cons (pv 5) (pa_cons pe_bl pa_nil)))))) (pw_or (pt_not (pt_val (pe_call (ok_law_value T) (hr.mono (by decide)) (by rfl) T.g_law_value T.F_law_value.kp T.b_law_value .nil pass0 (pa_cons (pv 1) (pa_cons (pv 5) pa_nil))))) (pw_or1 (pt_not (pt_val (pe_call (ok_law_value T) (hr.mono (by decide)) (by rfl) T.g_law_value T.F_law_value.kp T.b_law_value .nil pass0 (pa_cons (pv 1) (pa_cons (pe_op op_addU (pv 5) pe_str) pa_nil))))))))) (pss_one (ps_ret pe_bl)) pss_nil))) pss_nil)
        (pss_one (ps_ret (pe_call (ok_law_lines T) hr (by rfl) T.g_law_lines T.F_law_lines.kp T.b_law_lines .nil pass0 (pa_cons (pv 1) (pa_cons (pe_op op_addU (pv 4) pe_str) (pa_cons pe_bl pa_nil))))))))))))))), ?_⟩
    walk_at "rd"
    refine ⟨sc, ns, rfl, hS, fun a H1 e1 ha s1 => ?_⟩
    walk_at "rd"
    refine ⟨a, rfl, s1, fun H2 D2 => ?_⟩
    walk_at "rd"
    refine ⟨a, rfl, D2.st, fun p H3 xs D3 hp hx => ?_⟩
    walk_at "rd"
    refine l_L (sqL hp) (fun i σ H' => ∃ y2 y3 y4 y5 y6 y7, σ = [some (.ref sc), some (.ref a), y2, y3, y4, y5, y6, y7] ∧ Ex H3 H') ⟨_, _, _, _, _, _, rfl, Same.refl _⟩ (fun i σ H' h => ?_) (fun i x σ H' hxi hP => ?_) (fun σ H' hP => ?_)
    · obtain ⟨_, _, _, _, _, _, _, e⟩ := h
      exact sqL (e _ _ hp)
    · obtain ⟨y2, y3, y4, y5, y6, y7, rfl, e⟩ := hP
      obtain ⟨o, ho⟩ := hx x (List.mem_of_getElem? hxi)
      walk_at "rd"
      refine ⟨a, x, o, rfl, ho.up e, fun H4 e4 => ?_⟩
      walk_at "rd"
      exact ⟨_, _, _, _, _, _, rfl, e.trans e4⟩
    · obtain ⟨y2, y3, y4, y5, y6, y7, rfl, e⟩ := hP
      have s4 : Stt H' a := D3.st.up e
      walk_at "rd"
      refine ⟨a, 5, rfl, s4, by decide, fun n H5 hn D5 => ?_⟩
      walk_at "rd"
      refine l_lcR (by omega) (by omega) (fun C i H6 => Drw (cell a) H5 H6 ∧ ∃ ys : List Str, H6 C = some (.lst (ys.map V.str)) ∧ ys.length = i ∧ ∀ y ∈ ys, 10 ∉ cs y ∧ y.length ≤ 5) (fun C hC => ⟨(Drw.refl D5.st).new hC, [], upd_same, rfl, fun _ h => nomatch h⟩) (fun C i H6 hC hi hP => ?_) (fun C H6 hC hP => ?_)
      · obtain ⟨D6, ys, gC, hl, hy⟩ := hP
        have na := (cell a).fresh D5.st hC
        walk_at "rd"
        refine ⟨rfl, ?_⟩
        walk_at "rd"
        unfold CwR.tReplC
        walk_at "rd"
        refine ⟨a, 5, rfl, D6.st, by decide, fun k H7 hk D7 => ?_⟩
        walk_at "rd"
        refine ⟨a, k, rfl, D7.st, by omega, fun z H8 D8 hzl hzA => ?_⟩
        have ez : (Str.ofString "").length = 0 := by decide +kernel
        refine ⟨z, rfl, by rw [ez]; omega, ?_⟩
        rw [nl_str]
        have D78 := D7.trans D8
        have rl5 := rep_len z
        refine ⟨_, D78.at na gC, by rw [List.length_map, hl]; exact Nat.lt_of_le_of_lt (show i ≤ 20 by omega) (by decide), (D6.trans D78).put hC na, ys ++ [Txt.replace z NL ""], by rw [upd_same, List.map_append]; rfl, by rw [List.length_append, hl]; rfl, fun y hy' => ?_⟩
        rcases List.mem_append.mp hy' with h | h
        · exact hy y h
        · rw [List.mem_singleton.mp h]
          exact ⟨rep_free z, by omega⟩
      · obtain ⟨D6, ys, gC, hl, hy⟩ := hP
        rw [show ((1 : Int) + ((n : Nat) : Int)).toNat = n + 1 by omega] at hl
        walk_at "rd"
        refine r_tupL (sqL gC) fun r hr => ?_
        obtain ⟨H7, eH7, x7, g7⟩ := new1 hr (.tup (ys.map V.str))
        rw [← eH7]
        have D7 := (D5.trans D6).then x7
        obtain ⟨J, eJ⟩ : ∃ J, J = Txt.join NL ys := ⟨_, rfl⟩
        have ne : ys ≠ [] := fun e => by rw [e] at hl; cases hl
        have sj : rw' J = ys := by
          rw [eJ]
          exact TL.split_join (s := 10) (S := []) rfl (by decide +kernel) ne fun y h => (hy y h).1
        have sb : (ys.map (·.length)).sum ≤ ys.length * 5 := by
          have : ∀ l : List Str, (∀ y ∈ l, y.length ≤ 5) → (l.map (·.length)).sum ≤ l.length * 5 := by
            intro l
            induction l with
            | nil => intro _; exact Nat.le_refl _
            | cons c l ih =>
              intro h
              rw [List.map_cons, List.sum_cons, List.length_cons]
              have := ih fun y hy => h y (List.mem_cons_of_mem _ hy)
              have := h c (List.mem_cons_self ..)
              omega
          exact this ys fun y h => (hy y h).2
        have jl : J.length + 1 = (ys.map (·.length)).sum + ys.length := by
          have := sum_rows J
          rw [sj] at this
          omega
        walk_at "rd"
        refine ⟨r, ys, rfl, g7, by omega, ?_⟩
        rw [← eJ]
        walk_at "rd"
        refine ⟨r, ys, rfl, g7, by omega, ?_⟩
        rw [← eJ]
        walk_at "rd"
        refine ⟨J, rfl, by omega, fun p2 H8 x8 g8 => ?_⟩
        rw [sj] at g8
        walk_at "rd"
        refine r_listT (sqT (x8 _ _ g7)) fun l2 hl2 => ?_
        obtain ⟨H9, eH9, x9, g9⟩ := new1 hl2 (.lst (ys.map V.str))
        rw [← eH9]
        walk_at "rd"
        refine ⟨J, p2, l2, ys, rfl, x9 _ _ g8, g9, by omega, by omega, eJ.symm, ?_⟩
        have D9 := D7.then (x8.trans x9)
        have g7 := x9 _ _ (x8 _ _ g7)
        walk_at "rd"
        refine ⟨r, ys, rfl, g7, by omega, ?_⟩
        rw [← eJ]
        walk_at "rd"
        refine l_lcS (fun C i H2 => Ex H9 H2 ∧ H2 C = some (.lst ((((cs J).take i).filter fun c => decide (c = 10)).map fun c => V.str ⟨#[c]⟩))) (fun C hC => ⟨Same.new (Same.refl _) hC, upd_same⟩) (fun C i c H2 hC hx hP => ?_) (fun C H2 hC hP => ?_)
        · obtain ⟨e, gC⟩ := hP
          walk_at "rd"
          refine ⟨rfl, ?_⟩
          walk_at "rd"
          have lt : ((((cs J).take i).filter fun c => decide (c = 10)).map fun c => V.str ⟨#[c]⟩).length < sizeLine := by
            rw [List.length_map]
            exact Nat.lt_of_le_of_lt (Nat.le_trans (List.length_filter_le _ _) (show ((cs J).take i).length ≤ 100 by rw [List.length_take, cs_len]; omega)) (by decide)
          refine r_ite (fun h => ?_) (fun h => ?_)
          · have c10 : c = 10 := by
              have h := V.str.inj h
              rw [nl_str] at h
              injection h with h
              injection h with h
              injection h
            walk_at "rd"
            refine ⟨_, gC, lt, Same.mut e hC, ?_⟩
            rw [upd_same, List.take_add_one, hx, List.filter_append]
            show _ = some (HO.lst (List.map _ (_ ++ List.filter _ [c])))
            rw [List.filter_cons_of_pos (by simpa using c10), List.filter_nil, List.map_append]
            rfl
          · have c10 : ¬ c = 10 := fun e => h (by rw [nl_str, e]; rfl)
            refine ⟨e, ?_⟩
            rw [List.take_add_one, hx, List.filter_append]
            show _ = some (HO.lst (List.map _ (_ ++ List.filter _ [c])))
            rw [List.filter_cons_of_neg (by simpa using c10), List.filter_nil, List.append_nil]
            exact gC
        · obtain ⟨e, gC⟩ := hP
          rw [List.take_of_length_le (by rw [cs_len]; exact Nat.le_refl _)] at gC
          have cnt : (((cs J).filter fun c => decide (c = 10)).map fun c => V.str ⟨#[c]⟩).length + 1 = ys.length := by
            have h1 := li_all J
            have h2 := rl_len J
            rw [show Txt.split J NL = ys from sj] at h2
            rw [List.length_map]
            unfold li ln at h1
            rw [List.take_of_length_le (by rw [cs_len]; exact Nat.le_refl _)] at h1
            omega
          have DC := D9.then e
          walk_at "rd"
          refine r_lenL (sqL gC) ?_
          walk_at "rd"
          refine r_lenT (sqT (e _ _ g7)) ?_
          rw [List.length_map (as := ys)]
          walk_at "rd"
          rw [show ((ys.length : Nat) : Int) - 1 = ((((cs J).filter fun c => decide (c = 10)).map fun c => V.str ⟨#[c]⟩).length : Nat) by omega]
          refine r_iteN (fun h => absurd rfl h) (fun _ => ?_)
          walk_at "rd"
          refine ⟨a, 13, rfl, DC.st, by decide, fun k1 K1 hk1 DK1 => ?_⟩
          walk_at "rd"
          refine ⟨a, k1, rfl, DK1.st, by omega, fun tx K2 DK2 htx htA => ?_⟩
          walk_at "rd"
          refine ⟨a, tx, true, rfl, DK2.st, by omega, fun K3 DK3 => ?_⟩
          walk_at "rd"
          refine ⟨a, _, true, rfl, DK3.st, (by show (Str.ofString "").length ≤ 5000; decide +kernel), fun K4 DK4 => ?_⟩
          walk_at "rd"
          refine ⟨fun σ' H' => ∃ y5 y6 y7, σ' = [some (.ref sc), some (.ref a), y2, some (.ref r), some (.str tx), y5, y6, y7] ∧ Stt H' a, ?_, ?_⟩
          · walk_at "rd"
            refine ⟨a, 16, rfl, DK4.st, by decide, fun k5 K5 hk5 DK5 => ?_⟩
            walk_at "rd"
            refine r_ite (fun _ => ?_) (fun _ => ?_)
            · walk_at "rd"
              refine ⟨a, 3001, rfl, DK5.st, by decide, fun k6 K6 hk6 DK6 => ?_⟩
              walk_at "rd"
              refine ⟨a, 1000 + k6, rfl, DK6.st, by omega, fun lg K7 DK7 hlg _ => ?_⟩
              walk_at "rd"
              refine ⟨a, lg, false, rfl, DK7.st, by omega, fun K8 DK8 => ?_⟩
              walk_at "rd"
              refine ⟨a, _, some lg, rfl, ⟨rfl, by omega⟩, fun K9 xK9 => ?_⟩
              walk_at "rd"
              have tb : (Str.ofString "\t").length = 1 := by decide +kernel
              refine r_addS (by rw [tb, sizeLine_eq]; omega) ?_
              walk_at "rd"
              refine ⟨a, _, some (lg ++ Str.ofString "\t"), rfl, ⟨rfl, by rw [app_len, tb]; omega⟩, fun K10 xK10 => ?_⟩
              walk_at "rd"
              exact ⟨_, _, _, rfl, (DK8.st.up xK9).up xK10⟩
            · walk_at "rd"
              exact ⟨_, _, _, rfl, DK5.st⟩
          · rintro σ' K5 ⟨y5, y6, y7, rfl, sK⟩
            have nlb : (Str.ofString "\n").length = 1 := by decide +kernel
            walk_at "rd"
            refine r_addS (by rw [nlb, sizeLine_eq]; omega) ?_
            walk_at "rd"
            refine ⟨a, _, true, rfl, sK, by rw [app_len, nlb]; omega, fun K6 _ => ?_⟩
            exact q K6
end
theorem all_mk {l : PySem.W.OpenLaw} {w : World} {K : PySem.W.Frag} {h : Heap} {mg : Str → Option Value} {fa : Addr} (X : K.In h) (G : h.Ns mainGlobals mg) (hfa : mg "law" = some (.ref fa))
    {f_rows_of : Addr} {od_rows_of an_rows_of : Option Addr} {sl_rows_of : Array (Option Value)} {oc_rows_of kV_rows_of dc_rows_of pm_rows_of cd_rows_of ct_rows_of : Value}
    {f_joined : Addr} {od_joined an_joined : Option Addr} {sl_joined : Array (Option Value)} {oc_joined kV_joined dc_joined pm_joined cd_joined ct_joined : Value}
    {f_spot_of : Addr} {od_spot_of an_spot_of : Option Addr} {sl_spot_of : Array (Option Value)} {oc_spot_of kV_spot_of dc_spot_of pm_spot_of cd_spot_of ct_spot_of : Value}
    {f_place_of : Addr} {od_place_of an_place_of : Option Addr} {sl_place_of : Array (Option Value)} {oc_place_of kV_place_of dc_place_of pm_place_of cd_place_of ct_place_of : Value}
    {f_row_bounds : Addr} {od_row_bounds an_row_bounds : Option Addr} {sl_row_bounds : Array (Option Value)} {oc_row_bounds kV_row_bounds dc_row_bounds pm_row_bounds cd_row_bounds ct_row_bounds : Value}
    {f_first_strange : Addr} {od_first_strange an_first_strange : Option Addr} {sl_first_strange : Array (Option Value)} {oc_first_strange kV_first_strange dc_first_strange pm_first_strange cd_first_strange ct_first_strange : Value}
    {f_is_text : Addr} {od_is_text an_is_text : Option Addr} {sl_is_text : Array (Option Value)} {oc_is_text kV_is_text dc_is_text pm_is_text cd_is_text ct_is_text : Value}
    {f_check_text : Addr} {od_check_text an_check_text : Option Addr} {sl_check_text : Array (Option Value)} {oc_check_text kV_check_text dc_check_text pm_check_text cd_check_text ct_check_text : Value}
    {f_code_of : Addr} {od_code_of an_code_of : Option Addr} {sl_code_of : Array (Option Value)} {oc_code_of kV_code_of dc_code_of pm_code_of cd_code_of ct_code_of : Value}
    {f_sign_of : Addr} {od_sign_of an_sign_of : Option Addr} {sl_sign_of : Array (Option Value)} {oc_sign_of kV_sign_of dc_sign_of pm_sign_of cd_sign_of ct_sign_of : Value}
    {f_kind_of : Addr} {od_kind_of an_kind_of : Option Addr} {sl_kind_of : Array (Option Value)} {oc_kind_of kV_kind_of dc_kind_of pm_kind_of cd_kind_of ct_kind_of : Value}
    {f_is_name : Addr} {od_is_name an_is_name : Option Addr} {sl_is_name : Array (Option Value)} {oc_is_name kV_is_name dc_is_name pm_is_name cd_is_name ct_is_name : Value}
    {f_law_start : Addr} {od_law_start an_law_start : Option Addr} {sl_law_start : Array (Option Value)} {oc_law_start kV_law_start dc_law_start pm_law_start cd_law_start ct_law_start : Value}
    {f_law_draw : Addr} {od_law_draw an_law_draw : Option Addr} {sl_law_draw : Array (Option Value)} {oc_law_draw kV_law_draw dc_law_draw pm_law_draw cd_law_draw ct_law_draw : Value}
    {f_law_small : Addr} {od_law_small an_law_small : Option Addr} {sl_law_small : Array (Option Value)} {oc_law_small kV_law_small dc_law_small pm_law_small cd_law_small ct_law_small : Value}
    {f_law_signs : Addr} {od_law_signs an_law_signs : Option Addr} {sl_law_signs : Array (Option Value)} {oc_law_signs kV_law_signs dc_law_signs pm_law_signs cd_law_signs ct_law_signs : Value}
    {f_law_kind : Addr} {od_law_kind an_law_kind : Option Addr} {sl_law_kind : Array (Option Value)} {oc_law_kind kV_law_kind dc_law_kind pm_law_kind cd_law_kind ct_law_kind : Value}
    {f_law_text : Addr} {od_law_text an_law_text : Option Addr} {sl_law_text : Array (Option Value)} {oc_law_text kV_law_text dc_law_text pm_law_text cd_law_text ct_law_text : Value}
    {f_law_is : Addr} {od_law_is an_law_is : Option Addr} {sl_law_is : Array (Option Value)} {oc_law_is kV_law_is dc_law_is pm_law_is cd_law_is ct_law_is : Value}
    {f_law_told : Addr} {od_law_told an_law_told : Option Addr} {sl_law_told : Array (Option Value)} {oc_law_told kV_law_told dc_law_told pm_law_told cd_law_told ct_law_told : Value}
    {f_law_pair : Addr} {od_law_pair an_law_pair : Option Addr} {sl_law_pair : Array (Option Value)} {oc_law_pair kV_law_pair dc_law_pair pm_law_pair cd_law_pair ct_law_pair : Value}
    {f_law_alphabet : Addr} {od_law_alphabet an_law_alphabet : Option Addr} {sl_law_alphabet : Array (Option Value)} {oc_law_alphabet kV_law_alphabet dc_law_alphabet pm_law_alphabet cd_law_alphabet ct_law_alphabet : Value}
    {f_law_first_wrong : Addr} {od_law_first_wrong an_law_first_wrong : Option Addr} {sl_law_first_wrong : Array (Option Value)} {oc_law_first_wrong kV_law_first_wrong dc_law_first_wrong pm_law_first_wrong cd_law_first_wrong ct_law_first_wrong : Value}
    {f_law_named : Addr} {od_law_named an_law_named : Option Addr} {sl_law_named : Array (Option Value)} {oc_law_named kV_law_named dc_law_named pm_law_named cd_law_named ct_law_named : Value}
    {f_law_checked : Addr} {od_law_checked an_law_checked : Option Addr} {sl_law_checked : Array (Option Value)} {oc_law_checked kV_law_checked dc_law_checked pm_law_checked cd_law_checked ct_law_checked : Value}
    {f_law_value : Addr} {od_law_value an_law_value : Option Addr} {sl_law_value : Array (Option Value)} {oc_law_value kV_law_value dc_law_value pm_law_value cd_law_value ct_law_value : Value}
    {f_law_name : Addr} {od_law_name an_law_name : Option Addr} {sl_law_name : Array (Option Value)} {oc_law_name kV_law_name dc_law_name pm_law_name cd_law_name ct_law_name : Value}
    {f_law_values : Addr} {od_law_values an_law_values : Option Addr} {sl_law_values : Array (Option Value)} {oc_law_values kV_law_values dc_law_values pm_law_values cd_law_values ct_law_values : Value}
    {f_law_refused_spot : Addr} {od_law_refused_spot an_law_refused_spot : Option Addr} {sl_law_refused_spot : Array (Option Value)} {oc_law_refused_spot kV_law_refused_spot dc_law_refused_spot pm_law_refused_spot cd_law_refused_spot ct_law_refused_spot : Value}
    {f_law_refused_line : Addr} {od_law_refused_line an_law_refused_line : Option Addr} {sl_law_refused_line : Array (Option Value)} {oc_law_refused_line kV_law_refused_line dc_law_refused_line pm_law_refused_line cd_law_refused_line ct_law_refused_line : Value}
    {f_law_rows : Addr} {od_law_rows an_law_rows : Option Addr} {sl_law_rows : Array (Option Value)} {oc_law_rows kV_law_rows dc_law_rows pm_law_rows cd_law_rows ct_law_rows : Value}
    {f_law_walk : Addr} {od_law_walk an_law_walk : Option Addr} {sl_law_walk : Array (Option Value)} {oc_law_walk kV_law_walk dc_law_walk pm_law_walk cd_law_walk ct_law_walk : Value}
    {f_law_lines : Addr} {od_law_lines an_law_lines : Option Addr} {sl_law_lines : Array (Option Value)} {oc_law_lines kV_law_lines dc_law_lines pm_law_lines cd_law_lines ct_law_lines : Value}
    {f_law : Addr} {od_law an_law : Option Addr} {sl_law : Array (Option Value)} {oc_law kV_law dc_law pm_law cd_law ct_law : Value}
    {C_BadText fi_BadText N_BadText : Addr} {nm_BadText qn_BadText : Str} {bs_BadText su_BadText : List Value} {sn_BadText : List Str} {ab_BadText : Bool} {col_BadText : Option Bool} {dd_BadText : Option Addr} {m0_BadText m1_BadText m2_BadText m3_BadText m5_BadText : Option Value}
    {od_BadText an_BadText : Option Addr} {sl_BadText : Array (Option Value)} {oc_BadText kV_BadText dc_BadText pm_BadText cd_BadText ct_BadText : Value}
    {B_BadText_DeskError : Addr}
    {C_BadPlace fi_BadPlace N_BadPlace : Addr} {nm_BadPlace qn_BadPlace : Str} {bs_BadPlace su_BadPlace : List Value} {sn_BadPlace : List Str} {ab_BadPlace : Bool} {col_BadPlace : Option Bool} {dd_BadPlace : Option Addr} {m0_BadPlace m1_BadPlace m2_BadPlace m3_BadPlace m5_BadPlace : Option Value}
    {od_BadPlace an_BadPlace : Option Addr} {sl_BadPlace : Array (Option Value)} {oc_BadPlace kV_BadPlace dc_BadPlace pm_BadPlace cd_BadPlace ct_BadPlace : Value}
    {B_BadPlace_DeskError : Addr}
    {C_TooMuch fi_TooMuch N_TooMuch : Addr} {nm_TooMuch qn_TooMuch : Str} {bs_TooMuch su_TooMuch : List Value} {sn_TooMuch : List Str} {ab_TooMuch : Bool} {col_TooMuch : Option Bool} {dd_TooMuch : Option Addr} {m0_TooMuch m1_TooMuch m2_TooMuch m3_TooMuch m5_TooMuch : Option Value}
    {od_TooMuch an_TooMuch : Option Addr} {sl_TooMuch : Array (Option Value)} {oc_TooMuch kV_TooMuch dc_TooMuch pm_TooMuch cd_TooMuch ct_TooMuch : Value}
    {B_TooMuch_DeskError : Addr}
    {tk_DIGITS : Tok}
    {tk_SMALL_LETTERS : Tok}
    {tk_LETTERS : Tok}
    {tk_ALPHABET : Tok}
    {tk_LONGEST_NAME : Tok}
    (a_rows_of : PySem.W.nsIn K mainGlobals "rows_of" = some (some (.ref f_rows_of)))
    (l_rows_of : K.lookup f_rows_of = some ⟨oc_rows_of, od_rows_of, .func (PySem.W.fnOf "rows_of" "rows_of" (defArgs s_rows_of) (defBody s_rows_of) (defScope s_rows_of) .none kV_rows_of dc_rows_of pm_rows_of an_rows_of cd_rows_of ct_rows_of), sl_rows_of⟩)
    (c_rows_of : PySem.W.codeIn K cd_rows_of "rows_of" = true)
    (k_rows_of : PySem.W.keepIn K (.ref f_rows_of) = true)
    (a_joined : PySem.W.nsIn K mainGlobals "joined" = some (some (.ref f_joined)))
    (l_joined : K.lookup f_joined = some ⟨oc_joined, od_joined, .func (PySem.W.fnOf "joined" "joined" (defArgs s_joined) (defBody s_joined) (defScope s_joined) .none kV_joined dc_joined pm_joined an_joined cd_joined ct_joined), sl_joined⟩)
    (c_joined : PySem.W.codeIn K cd_joined "joined" = true)
    (k_joined : PySem.W.keepIn K (.ref f_joined) = true)
    (a_spot_of : PySem.W.nsIn K mainGlobals "spot_of" = some (some (.ref f_spot_of)))
    (l_spot_of : K.lookup f_spot_of = some ⟨oc_spot_of, od_spot_of, .func (PySem.W.fnOf "spot_of" "spot_of" (defArgs s_spot_of) (defBody s_spot_of) (defScope s_spot_of) .none kV_spot_of dc_spot_of pm_spot_of an_spot_of cd_spot_of ct_spot_of), sl_spot_of⟩)
    (c_spot_of : PySem.W.codeIn K cd_spot_of "spot_of" = true)
    (k_spot_of : PySem.W.keepIn K (.ref f_spot_of) = true)
    (a_place_of : PySem.W.nsIn K mainGlobals "place_of" = some (some (.ref f_place_of)))
    (l_place_of : K.lookup f_place_of = some ⟨oc_place_of, od_place_of, .func (PySem.W.fnOf "place_of" "place_of" (defArgs s_place_of) (defBody s_place_of) (defScope s_place_of) .none kV_place_of dc_place_of pm_place_of an_place_of cd_place_of ct_place_of), sl_place_of⟩)
    (c_place_of : PySem.W.codeIn K cd_place_of "place_of" = true)
    (k_place_of : PySem.W.keepIn K (.ref f_place_of) = true)
    (a_row_bounds : PySem.W.nsIn K mainGlobals "row_bounds" = some (some (.ref f_row_bounds)))
    (l_row_bounds : K.lookup f_row_bounds = some ⟨oc_row_bounds, od_row_bounds, .func (PySem.W.fnOf "row_bounds" "row_bounds" (defArgs s_row_bounds) (defBody s_row_bounds) (defScope s_row_bounds) .none kV_row_bounds dc_row_bounds pm_row_bounds an_row_bounds cd_row_bounds ct_row_bounds), sl_row_bounds⟩)
    (c_row_bounds : PySem.W.codeIn K cd_row_bounds "row_bounds" = true)
    (k_row_bounds : PySem.W.keepIn K (.ref f_row_bounds) = true)
    (a_first_strange : PySem.W.nsIn K mainGlobals "first_strange" = some (some (.ref f_first_strange)))
    (l_first_strange : K.lookup f_first_strange = some ⟨oc_first_strange, od_first_strange, .func (PySem.W.fnOf "first_strange" "first_strange" (defArgs s_first_strange) (defBody s_first_strange) (defScope s_first_strange) .none kV_first_strange dc_first_strange pm_first_strange an_first_strange cd_first_strange ct_first_strange), sl_first_strange⟩)
    (c_first_strange : PySem.W.codeIn K cd_first_strange "first_strange" = true)
    (k_first_strange : PySem.W.keepIn K (.ref f_first_strange) = true)
    (a_is_text : PySem.W.nsIn K mainGlobals "is_text" = some (some (.ref f_is_text)))
    (l_is_text : K.lookup f_is_text = some ⟨oc_is_text, od_is_text, .func (PySem.W.fnOf "is_text" "is_text" (defArgs s_is_text) (defBody s_is_text) (defScope s_is_text) .none kV_is_text dc_is_text pm_is_text an_is_text cd_is_text ct_is_text), sl_is_text⟩)
    (c_is_text : PySem.W.codeIn K cd_is_text "is_text" = true)
    (k_is_text : PySem.W.keepIn K (.ref f_is_text) = true)
    (a_check_text : PySem.W.nsIn K mainGlobals "check_text" = some (some (.ref f_check_text)))
    (l_check_text : K.lookup f_check_text = some ⟨oc_check_text, od_check_text, .func (PySem.W.fnOf "check_text" "check_text" (defArgs s_check_text) (defBody s_check_text) (defScope s_check_text) .none kV_check_text dc_check_text pm_check_text an_check_text cd_check_text ct_check_text), sl_check_text⟩)
    (c_check_text : PySem.W.codeIn K cd_check_text "check_text" = true)
    (k_check_text : PySem.W.keepIn K (.ref f_check_text) = true)
    (a_code_of : PySem.W.nsIn K mainGlobals "code_of" = some (some (.ref f_code_of)))
    (l_code_of : K.lookup f_code_of = some ⟨oc_code_of, od_code_of, .func (PySem.W.fnOf "code_of" "code_of" (defArgs s_code_of) (defBody s_code_of) (defScope s_code_of) .none kV_code_of dc_code_of pm_code_of an_code_of cd_code_of ct_code_of), sl_code_of⟩)
    (c_code_of : PySem.W.codeIn K cd_code_of "code_of" = true)
    (k_code_of : PySem.W.keepIn K (.ref f_code_of) = true)
    (a_sign_of : PySem.W.nsIn K mainGlobals "sign_of" = some (some (.ref f_sign_of)))
    (l_sign_of : K.lookup f_sign_of = some ⟨oc_sign_of, od_sign_of, .func (PySem.W.fnOf "sign_of" "sign_of" (defArgs s_sign_of) (defBody s_sign_of) (defScope s_sign_of) .none kV_sign_of dc_sign_of pm_sign_of an_sign_of cd_sign_of ct_sign_of), sl_sign_of⟩)
    (c_sign_of : PySem.W.codeIn K cd_sign_of "sign_of" = true)
    (k_sign_of : PySem.W.keepIn K (.ref f_sign_of) = true)
    (a_kind_of : PySem.W.nsIn K mainGlobals "kind_of" = some (some (.ref f_kind_of)))
    (l_kind_of : K.lookup f_kind_of = some ⟨oc_kind_of, od_kind_of, .func (PySem.W.fnOf "kind_of" "kind_of" (defArgs s_kind_of) (defBody s_kind_of) (defScope s_kind_of) .none kV_kind_of dc_kind_of pm_kind_of an_kind_of cd_kind_of ct_kind_of), sl_kind_of⟩)
    (c_kind_of : PySem.W.codeIn K cd_kind_of "kind_of" = true)
    (k_kind_of : PySem.W.keepIn K (.ref f_kind_of) = true)
    (a_is_name : PySem.W.nsIn K mainGlobals "is_name" = some (some (.ref f_is_name)))
    (l_is_name : K.lookup f_is_name = some ⟨oc_is_name, od_is_name, .func (PySem.W.fnOf "is_name" "is_name" (defArgs s_is_name) (defBody s_is_name) (defScope s_is_name) .none kV_is_name dc_is_name pm_is_name an_is_name cd_is_name ct_is_name), sl_is_name⟩)
    (c_is_name : PySem.W.codeIn K cd_is_name "is_name" = true)
    (k_is_name : PySem.W.keepIn K (.ref f_is_name) = true)
    (a_law_start : PySem.W.nsIn K mainGlobals "_law_start" = some (some (.ref f_law_start)))
    (l_law_start : K.lookup f_law_start = some ⟨oc_law_start, od_law_start, .func (PySem.W.fnOf "_law_start" "_law_start" (defArgs s_law_start) (defBody s_law_start) (defScope s_law_start) .none kV_law_start dc_law_start pm_law_start an_law_start cd_law_start ct_law_start), sl_law_start⟩)
    (c_law_start : PySem.W.codeIn K cd_law_start "_law_start" = true)
    (k_law_start : PySem.W.keepIn K (.ref f_law_start) = true)
    (a_law_draw : PySem.W.nsIn K mainGlobals "_law_draw" = some (some (.ref f_law_draw)))
    (l_law_draw : K.lookup f_law_draw = some ⟨oc_law_draw, od_law_draw, .func (PySem.W.fnOf "_law_draw" "_law_draw" (defArgs s_law_draw) (defBody s_law_draw) (defScope s_law_draw) .none kV_law_draw dc_law_draw pm_law_draw an_law_draw cd_law_draw ct_law_draw), sl_law_draw⟩)
    (c_law_draw : PySem.W.codeIn K cd_law_draw "_law_draw" = true)
    (k_law_draw : PySem.W.keepIn K (.ref f_law_draw) = true)
    (a_law_small : PySem.W.nsIn K mainGlobals "_law_small" = some (some (.ref f_law_small)))
    (l_law_small : K.lookup f_law_small = some ⟨oc_law_small, od_law_small, .func (PySem.W.fnOf "_law_small" "_law_small" (defArgs s_law_small) (defBody s_law_small) (defScope s_law_small) .none kV_law_small dc_law_small pm_law_small an_law_small cd_law_small ct_law_small), sl_law_small⟩)
    (c_law_small : PySem.W.codeIn K cd_law_small "_law_small" = true)
    (k_law_small : PySem.W.keepIn K (.ref f_law_small) = true)
    (a_law_signs : PySem.W.nsIn K mainGlobals "_law_signs" = some (some (.ref f_law_signs)))
    (l_law_signs : K.lookup f_law_signs = some ⟨oc_law_signs, od_law_signs, .func (PySem.W.fnOf "_law_signs" "_law_signs" (defArgs s_law_signs) (defBody s_law_signs) (defScope s_law_signs) .none kV_law_signs dc_law_signs pm_law_signs an_law_signs cd_law_signs ct_law_signs), sl_law_signs⟩)
    (c_law_signs : PySem.W.codeIn K cd_law_signs "_law_signs" = true)
    (k_law_signs : PySem.W.keepIn K (.ref f_law_signs) = true)
    (a_law_kind : PySem.W.nsIn K mainGlobals "_law_kind" = some (some (.ref f_law_kind)))
    (l_law_kind : K.lookup f_law_kind = some ⟨oc_law_kind, od_law_kind, .func (PySem.W.fnOf "_law_kind" "_law_kind" (defArgs s_law_kind) (defBody s_law_kind) (defScope s_law_kind) .none kV_law_kind dc_law_kind pm_law_kind an_law_kind cd_law_kind ct_law_kind), sl_law_kind⟩)
    (c_law_kind : PySem.W.codeIn K cd_law_kind "_law_kind" = true)
    (k_law_kind : PySem.W.keepIn K (.ref f_law_kind) = true)
    (a_law_text : PySem.W.nsIn K mainGlobals "_law_text" = some (some (.ref f_law_text)))
    (l_law_text : K.lookup f_law_text = some ⟨oc_law_text, od_law_text, .func (PySem.W.fnOf "_law_text" "_law_text" (defArgs s_law_text) (defBody s_law_text) (defScope s_law_text) .none kV_law_text dc_law_text pm_law_text an_law_text cd_law_text ct_law_text), sl_law_text⟩)
    (c_law_text : PySem.W.codeIn K cd_law_text "_law_text" = true)
    (k_law_text : PySem.W.keepIn K (.ref f_law_text) = true)
    (a_law_is : PySem.W.nsIn K mainGlobals "_law_is" = some (some (.ref f_law_is)))
    (l_law_is : K.lookup f_law_is = some ⟨oc_law_is, od_law_is, .func (PySem.W.fnOf "_law_is" "_law_is" (defArgs s_law_is) (defBody s_law_is) (defScope s_law_is) .none kV_law_is dc_law_is pm_law_is an_law_is cd_law_is ct_law_is), sl_law_is⟩)
    (c_law_is : PySem.W.codeIn K cd_law_is "_law_is" = true)
    (k_law_is : PySem.W.keepIn K (.ref f_law_is) = true)
    (a_law_told : PySem.W.nsIn K mainGlobals "_law_told" = some (some (.ref f_law_told)))
    (l_law_told : K.lookup f_law_told = some ⟨oc_law_told, od_law_told, .func (PySem.W.fnOf "_law_told" "_law_told" (defArgs s_law_told) (defBody s_law_told) (defScope s_law_told) .none kV_law_told dc_law_told pm_law_told an_law_told cd_law_told ct_law_told), sl_law_told⟩)
    (c_law_told : PySem.W.codeIn K cd_law_told "_law_told" = true)
    (k_law_told : PySem.W.keepIn K (.ref f_law_told) = true)
    (a_law_pair : PySem.W.nsIn K mainGlobals "_law_pair" = some (some (.ref f_law_pair)))
    (l_law_pair : K.lookup f_law_pair = some ⟨oc_law_pair, od_law_pair, .func (PySem.W.fnOf "_law_pair" "_law_pair" (defArgs s_law_pair) (defBody s_law_pair) (defScope s_law_pair) .none kV_law_pair dc_law_pair pm_law_pair an_law_pair cd_law_pair ct_law_pair), sl_law_pair⟩)
    (c_law_pair : PySem.W.codeIn K cd_law_pair "_law_pair" = true)
    (k_law_pair : PySem.W.keepIn K (.ref f_law_pair) = true)
    (a_law_alphabet : PySem.W.nsIn K mainGlobals "_law_alphabet" = some (some (.ref f_law_alphabet)))
    (l_law_alphabet : K.lookup f_law_alphabet = some ⟨oc_law_alphabet, od_law_alphabet, .func (PySem.W.fnOf "_law_alphabet" "_law_alphabet" (defArgs s_law_alphabet) (defBody s_law_alphabet) (defScope s_law_alphabet) .none kV_law_alphabet dc_law_alphabet pm_law_alphabet an_law_alphabet cd_law_alphabet ct_law_alphabet), sl_law_alphabet⟩)
    (c_law_alphabet : PySem.W.codeIn K cd_law_alphabet "_law_alphabet" = true)
    (k_law_alphabet : PySem.W.keepIn K (.ref f_law_alphabet) = true)
    (a_law_first_wrong : PySem.W.nsIn K mainGlobals "_law_first_wrong" = some (some (.ref f_law_first_wrong)))
    (l_law_first_wrong : K.lookup f_law_first_wrong = some ⟨oc_law_first_wrong, od_law_first_wrong, .func (PySem.W.fnOf "_law_first_wrong" "_law_first_wrong" (defArgs s_law_first_wrong) (defBody s_law_first_wrong) (defScope s_law_first_wrong) .none kV_law_first_wrong dc_law_first_wrong pm_law_first_wrong an_law_first_wrong cd_law_first_wrong ct_law_first_wrong), sl_law_first_wrong⟩)
    (c_law_first_wrong : PySem.W.codeIn K cd_law_first_wrong "_law_first_wrong" = true)
    (k_law_first_wrong : PySem.W.keepIn K (.ref f_law_first_wrong) = true)
    (a_law_named : PySem.W.nsIn K mainGlobals "_law_named" = some (some (.ref f_law_named)))
    (l_law_named : K.lookup f_law_named = some ⟨oc_law_named, od_law_named, .func (PySem.W.fnOf "_law_named" "_law_named" (defArgs s_law_named) (defBody s_law_named) (defScope s_law_named) .none kV_law_named dc_law_named pm_law_named an_law_named cd_law_named ct_law_named), sl_law_named⟩)
    (c_law_named : PySem.W.codeIn K cd_law_named "_law_named" = true)
    (k_law_named : PySem.W.keepIn K (.ref f_law_named) = true)
    (a_law_checked : PySem.W.nsIn K mainGlobals "_law_checked" = some (some (.ref f_law_checked)))
    (l_law_checked : K.lookup f_law_checked = some ⟨oc_law_checked, od_law_checked, .func (PySem.W.fnOf "_law_checked" "_law_checked" (defArgs s_law_checked) (defBody s_law_checked) (defScope s_law_checked) .none kV_law_checked dc_law_checked pm_law_checked an_law_checked cd_law_checked ct_law_checked), sl_law_checked⟩)
    (c_law_checked : PySem.W.codeIn K cd_law_checked "_law_checked" = true)
    (k_law_checked : PySem.W.keepIn K (.ref f_law_checked) = true)
    (a_law_value : PySem.W.nsIn K mainGlobals "_law_value" = some (some (.ref f_law_value)))
    (l_law_value : K.lookup f_law_value = some ⟨oc_law_value, od_law_value, .func (PySem.W.fnOf "_law_value" "_law_value" (defArgs s_law_value) (defBody s_law_value) (defScope s_law_value) .none kV_law_value dc_law_value pm_law_value an_law_value cd_law_value ct_law_value), sl_law_value⟩)
    (c_law_value : PySem.W.codeIn K cd_law_value "_law_value" = true)
    (k_law_value : PySem.W.keepIn K (.ref f_law_value) = true)
    (a_law_name : PySem.W.nsIn K mainGlobals "_law_name" = some (some (.ref f_law_name)))
    (l_law_name : K.lookup f_law_name = some ⟨oc_law_name, od_law_name, .func (PySem.W.fnOf "_law_name" "_law_name" (defArgs s_law_name) (defBody s_law_name) (defScope s_law_name) .none kV_law_name dc_law_name pm_law_name an_law_name cd_law_name ct_law_name), sl_law_name⟩)
    (c_law_name : PySem.W.codeIn K cd_law_name "_law_name" = true)
    (k_law_name : PySem.W.keepIn K (.ref f_law_name) = true)
    (a_law_values : PySem.W.nsIn K mainGlobals "_law_values" = some (some (.ref f_law_values)))
    (l_law_values : K.lookup f_law_values = some ⟨oc_law_values, od_law_values, .func (PySem.W.fnOf "_law_values" "_law_values" (defArgs s_law_values) (defBody s_law_values) (defScope s_law_values) .none kV_law_values dc_law_values pm_law_values an_law_values cd_law_values ct_law_values), sl_law_values⟩)
    (c_law_values : PySem.W.codeIn K cd_law_values "_law_values" = true)
    (k_law_values : PySem.W.keepIn K (.ref f_law_values) = true)
    (a_law_refused_spot : PySem.W.nsIn K mainGlobals "_law_refused_spot" = some (some (.ref f_law_refused_spot)))
    (l_law_refused_spot : K.lookup f_law_refused_spot = some ⟨oc_law_refused_spot, od_law_refused_spot, .func (PySem.W.fnOf "_law_refused_spot" "_law_refused_spot" (defArgs s_law_refused_spot) (defBody s_law_refused_spot) (defScope s_law_refused_spot) .none kV_law_refused_spot dc_law_refused_spot pm_law_refused_spot an_law_refused_spot cd_law_refused_spot ct_law_refused_spot), sl_law_refused_spot⟩)
    (c_law_refused_spot : PySem.W.codeIn K cd_law_refused_spot "_law_refused_spot" = true)
    (k_law_refused_spot : PySem.W.keepIn K (.ref f_law_refused_spot) = true)
    (a_law_refused_line : PySem.W.nsIn K mainGlobals "_law_refused_line" = some (some (.ref f_law_refused_line)))
    (l_law_refused_line : K.lookup f_law_refused_line = some ⟨oc_law_refused_line, od_law_refused_line, .func (PySem.W.fnOf "_law_refused_line" "_law_refused_line" (defArgs s_law_refused_line) (defBody s_law_refused_line) (defScope s_law_refused_line) .none kV_law_refused_line dc_law_refused_line pm_law_refused_line an_law_refused_line cd_law_refused_line ct_law_refused_line), sl_law_refused_line⟩)
    (c_law_refused_line : PySem.W.codeIn K cd_law_refused_line "_law_refused_line" = true)
    (k_law_refused_line : PySem.W.keepIn K (.ref f_law_refused_line) = true)
    (a_law_rows : PySem.W.nsIn K mainGlobals "_law_rows" = some (some (.ref f_law_rows)))
    (l_law_rows : K.lookup f_law_rows = some ⟨oc_law_rows, od_law_rows, .func (PySem.W.fnOf "_law_rows" "_law_rows" (defArgs s_law_rows) (defBody s_law_rows) (defScope s_law_rows) .none kV_law_rows dc_law_rows pm_law_rows an_law_rows cd_law_rows ct_law_rows), sl_law_rows⟩)
    (c_law_rows : PySem.W.codeIn K cd_law_rows "_law_rows" = true)
    (k_law_rows : PySem.W.keepIn K (.ref f_law_rows) = true)
    (a_law_walk : PySem.W.nsIn K mainGlobals "_law_walk" = some (some (.ref f_law_walk)))
    (l_law_walk : K.lookup f_law_walk = some ⟨oc_law_walk, od_law_walk, .func (PySem.W.fnOf "_law_walk" "_law_walk" (defArgs s_law_walk) (defBody s_law_walk) (defScope s_law_walk) .none kV_law_walk dc_law_walk pm_law_walk an_law_walk cd_law_walk ct_law_walk), sl_law_walk⟩)
    (c_law_walk : PySem.W.codeIn K cd_law_walk "_law_walk" = true)
    (k_law_walk : PySem.W.keepIn K (.ref f_law_walk) = true)
    (a_law_lines : PySem.W.nsIn K mainGlobals "_law_lines" = some (some (.ref f_law_lines)))
    (l_law_lines : K.lookup f_law_lines = some ⟨oc_law_lines, od_law_lines, .func (PySem.W.fnOf "_law_lines" "_law_lines" (defArgs s_law_lines) (defBody s_law_lines) (defScope s_law_lines) .none kV_law_lines dc_law_lines pm_law_lines an_law_lines cd_law_lines ct_law_lines), sl_law_lines⟩)
    (c_law_lines : PySem.W.codeIn K cd_law_lines "_law_lines" = true)
    (k_law_lines : PySem.W.keepIn K (.ref f_law_lines) = true)
    (a_law : PySem.W.nsIn K mainGlobals "law" = some (some (.ref f_law)))
    (l_law : K.lookup f_law = some ⟨oc_law, od_law, .func (PySem.W.fnOf "law" "law" (defArgs s_law) (defBody s_law) (defScope s_law) .none kV_law dc_law pm_law an_law cd_law ct_law), sl_law⟩)
    (c_law : PySem.W.codeIn K cd_law "law" = true)
    (k_law : PySem.W.keepIn K (.ref f_law) = true)
    (aC_BadText : PySem.W.nsIn K mainGlobals "BadText" = some (some (.ref C_BadText)))
    (xL_BadText : K.lookup C_BadText = some (excClassObj nm_BadText qn_BadText C_BadText N_BadText bs_BadText [.ref B_BadText_DeskError, .type "ValueError", .type "Exception", .type "BaseException", .type "object"] true sn_BadText su_BadText ab_BadText col_BadText dd_BadText m0_BadText m1_BadText m2_BadText m3_BadText m5_BadText "ValueError.__new__"))
    (sa_BadText : PySem.W.findIn K (.ref C_BadText) "__setattr__" = some (some (.builtin "object.__setattr__")))
    (ga_BadText : PySem.W.findIn K (.ref C_BadText) "__getattribute__" = some (some (.builtin "BaseException.__getattribute__")))
    (gg_BadText : PySem.W.findIn K (.ref C_BadText) "__getattr__" = some none)
    (na_BadText_at : PySem.W.findIn K (.ref C_BadText) "at" = some none)
    (iC_BadText : PySem.W.findIn K (.ref C_BadText) "__init__" = some (some (.ref fi_BadText)))
    (ti_BadText : PySem.W.typeIn K (.ref fi_BadText) = some (.type "function"))
    (li_BadText : K.lookup fi_BadText = some ⟨oc_BadText, od_BadText, .func (PySem.W.fnOf "__init__" "BadText.__init__" (defArgs s_init_BadText) (defBody s_init_BadText) (defScope s_init_BadText) .none kV_BadText dc_BadText pm_BadText an_BadText cd_BadText ct_BadText), sl_BadText⟩)
    (ci_BadText : PySem.W.codeIn K cd_BadText "BadText.__init__" = true)
    (ki_BadText : PySem.W.keepIn K (.ref fi_BadText) = true)
    (kC_BadText : PySem.W.keepIn K (.ref C_BadText) = true)
    (eC_BadText : PySem.W.subIn K (.ref C_BadText) (.type "BaseException") = some true)
    (tC_BadText : PySem.W.typeIn K (.ref C_BadText) = some (.type "type"))
    (hC_BadText : PySem.W.hasDictIn K C_BadText = true)
    (yC_BadText : PySem.W.isClsIn K C_BadText = true)
    (sC_BadText : PySem.W.subIn K (.ref C_BadText) (.ref C_BadText) = some true)
    (aC_BadPlace : PySem.W.nsIn K mainGlobals "BadPlace" = some (some (.ref C_BadPlace)))
    (xL_BadPlace : K.lookup C_BadPlace = some (excClassObj nm_BadPlace qn_BadPlace C_BadPlace N_BadPlace bs_BadPlace [.ref B_BadPlace_DeskError, .type "ValueError", .type "Exception", .type "BaseException", .type "object"] true sn_BadPlace su_BadPlace ab_BadPlace col_BadPlace dd_BadPlace m0_BadPlace m1_BadPlace m2_BadPlace m3_BadPlace m5_BadPlace "ValueError.__new__"))
    (sa_BadPlace : PySem.W.findIn K (.ref C_BadPlace) "__setattr__" = some (some (.builtin "object.__setattr__")))
    (ga_BadPlace : PySem.W.findIn K (.ref C_BadPlace) "__getattribute__" = some (some (.builtin "BaseException.__getattribute__")))
    (gg_BadPlace : PySem.W.findIn K (.ref C_BadPlace) "__getattr__" = some none)
    (na_BadPlace_at : PySem.W.findIn K (.ref C_BadPlace) "at" = some none)
    (iC_BadPlace : PySem.W.findIn K (.ref C_BadPlace) "__init__" = some (some (.ref fi_BadPlace)))
    (ti_BadPlace : PySem.W.typeIn K (.ref fi_BadPlace) = some (.type "function"))
    (li_BadPlace : K.lookup fi_BadPlace = some ⟨oc_BadPlace, od_BadPlace, .func (PySem.W.fnOf "__init__" "BadPlace.__init__" (defArgs s_init_BadPlace) (defBody s_init_BadPlace) (defScope s_init_BadPlace) .none kV_BadPlace dc_BadPlace pm_BadPlace an_BadPlace cd_BadPlace ct_BadPlace), sl_BadPlace⟩)
    (ci_BadPlace : PySem.W.codeIn K cd_BadPlace "BadPlace.__init__" = true)
    (ki_BadPlace : PySem.W.keepIn K (.ref fi_BadPlace) = true)
    (kC_BadPlace : PySem.W.keepIn K (.ref C_BadPlace) = true)
    (eC_BadPlace : PySem.W.subIn K (.ref C_BadPlace) (.type "BaseException") = some true)
    (tC_BadPlace : PySem.W.typeIn K (.ref C_BadPlace) = some (.type "type"))
    (hC_BadPlace : PySem.W.hasDictIn K C_BadPlace = true)
    (yC_BadPlace : PySem.W.isClsIn K C_BadPlace = true)
    (sC_BadPlace : PySem.W.subIn K (.ref C_BadPlace) (.ref C_BadPlace) = some true)
    (aC_TooMuch : PySem.W.nsIn K mainGlobals "TooMuch" = some (some (.ref C_TooMuch)))
    (xL_TooMuch : K.lookup C_TooMuch = some (excClassObj nm_TooMuch qn_TooMuch C_TooMuch N_TooMuch bs_TooMuch [.ref B_TooMuch_DeskError, .type "ValueError", .type "Exception", .type "BaseException", .type "object"] true sn_TooMuch su_TooMuch ab_TooMuch col_TooMuch dd_TooMuch m0_TooMuch m1_TooMuch m2_TooMuch m3_TooMuch m5_TooMuch "ValueError.__new__"))
    (sa_TooMuch : PySem.W.findIn K (.ref C_TooMuch) "__setattr__" = some (some (.builtin "object.__setattr__")))
    (ga_TooMuch : PySem.W.findIn K (.ref C_TooMuch) "__getattribute__" = some (some (.builtin "BaseException.__getattribute__")))
    (gg_TooMuch : PySem.W.findIn K (.ref C_TooMuch) "__getattr__" = some none)
    (na_TooMuch_what : PySem.W.findIn K (.ref C_TooMuch) "what" = some none)
    (iC_TooMuch : PySem.W.findIn K (.ref C_TooMuch) "__init__" = some (some (.ref fi_TooMuch)))
    (ti_TooMuch : PySem.W.typeIn K (.ref fi_TooMuch) = some (.type "function"))
    (li_TooMuch : K.lookup fi_TooMuch = some ⟨oc_TooMuch, od_TooMuch, .func (PySem.W.fnOf "__init__" "TooMuch.__init__" (defArgs s_init_TooMuch) (defBody s_init_TooMuch) (defScope s_init_TooMuch) .none kV_TooMuch dc_TooMuch pm_TooMuch an_TooMuch cd_TooMuch ct_TooMuch), sl_TooMuch⟩)
    (ci_TooMuch : PySem.W.codeIn K cd_TooMuch "TooMuch.__init__" = true)
    (ki_TooMuch : PySem.W.keepIn K (.ref fi_TooMuch) = true)
    (kC_TooMuch : PySem.W.keepIn K (.ref C_TooMuch) = true)
    (eC_TooMuch : PySem.W.subIn K (.ref C_TooMuch) (.type "BaseException") = some true)
    (tC_TooMuch : PySem.W.typeIn K (.ref C_TooMuch) = some (.type "type"))
    (hC_TooMuch : PySem.W.hasDictIn K C_TooMuch = true)
    (yC_TooMuch : PySem.W.isClsIn K C_TooMuch = true)
    (sC_TooMuch : PySem.W.subIn K (.ref C_TooMuch) (.ref C_TooMuch) = some true)
    (sU_TooMuch_BadText : PySem.W.subIn K (.ref C_TooMuch) (.ref C_BadText) = some false)
    (ocn : PySem.W.specialIn K (.builtin "object.__class__") "__get__" = some (some (.builtin "getset_descriptor.__get__")))
    (oct : PySem.W.takesIn K (.builtin "object.__class__") = some true)
    (cc_BadText : PySem.W.findIn K (.ref C_BadText) "__class__" = some (some (.builtin "object.__class__")))
    (cm_BadText : PySem.W.mroIn K C_BadText (.type "object") = some true)
    (cc_BadPlace : PySem.W.findIn K (.ref C_BadPlace) "__class__" = some (some (.builtin "object.__class__")))
    (cm_BadPlace : PySem.W.mroIn K C_BadPlace (.type "object") = some true)
    (cc_TooMuch : PySem.W.findIn K (.ref C_TooMuch) "__class__" = some (some (.builtin "object.__class__")))
    (cm_TooMuch : PySem.W.mroIn K C_TooMuch (.type "object") = some true)
    (v_DIGITS : PySem.W.nsIn K mainGlobals "DIGITS" = some (some (.str "0123456789" tk_DIGITS)))
    (v_SMALL_LETTERS : PySem.W.nsIn K mainGlobals "SMALL_LETTERS" = some (some (.str "abcdefghijklmnopqrstuvwxyz" tk_SMALL_LETTERS)))
    (v_LETTERS : PySem.W.nsIn K mainGlobals "LETTERS" = some (some (.str "ABCDEFGHIJKLMNOPQRSTUVWXYZ_abcdefghijklmnopqrstuvwxyz" tk_LETTERS)))
    (v_ALPHABET : PySem.W.nsIn K mainGlobals "ALPHABET" = some (some (.str "\n !\"#$&'()*+,-./0123456789:;<=>?@ABCDEFGHIJKLMNOPQRSTUVWXYZ[\\]^_`abcdefghijklmnopqrstuvwxyz{|}~" tk_ALPHABET)))
    (v_LONGEST_NAME : PySem.W.nsIn K mainGlobals "LONGEST_NAME" = some (some (.int 12 tk_LONGEST_NAME)))
    (z_all : PySem.W.nsIn K mainGlobals "all" = some none)
    (z_bool : PySem.W.nsIn K mainGlobals "bool" = some none)
    (z_enumerate : PySem.W.nsIn K mainGlobals "enumerate" = some none)
    (z_int : PySem.W.nsIn K mainGlobals "int" = some none)
    (z_isinstance : PySem.W.nsIn K mainGlobals "isinstance" = some none)
    (z_len : PySem.W.nsIn K mainGlobals "len" = some none)
    (z_list : PySem.W.nsIn K mainGlobals "list" = some none)
    (z_max : PySem.W.nsIn K mainGlobals "max" = some none)
    (z_min : PySem.W.nsIn K mainGlobals "min" = some none)
    (z_range : PySem.W.nsIn K mainGlobals "range" = some none)
    (z_str : PySem.W.nsIn K mainGlobals "str" = some none)
    (z_sum : PySem.W.nsIn K mainGlobals "sum" = some none)
    (z_tuple : PySem.W.nsIn K mainGlobals "tuple" = some none) :
    ∃ fd : FuncData, (∀ (s : Shared) (v : Value), BindsTo s fd ⟨[v], []⟩ [("_law_script", v)]) ∧ ∀ base : Heap, K.In base → base.Ns mainGlobals mg → FnOk l.prog w K mg base CX0 7 fa fd ["_law_script"] (sp_law K) := by
  have e := hfa.symm.trans (PySem.W.mg_of X G a_law)
  cases e
  have F_rows_of := fun_mk (st := s_rows_of) l_rows_of c_rows_of k_rows_of
  have F_joined := fun_mk (st := s_joined) l_joined c_joined k_joined
  have F_spot_of := fun_mk (st := s_spot_of) l_spot_of c_spot_of k_spot_of
  have F_place_of := fun_mk (st := s_place_of) l_place_of c_place_of k_place_of
  have F_row_bounds := fun_mk (st := s_row_bounds) l_row_bounds c_row_bounds k_row_bounds
  have F_first_strange := fun_mk (st := s_first_strange) l_first_strange c_first_strange k_first_strange
  have F_is_text := fun_mk (st := s_is_text) l_is_text c_is_text k_is_text
  have F_check_text := fun_mk (st := s_check_text) l_check_text c_check_text k_check_text
  have F_code_of := fun_mk (st := s_code_of) l_code_of c_code_of k_code_of
  have F_sign_of := fun_mk (st := s_sign_of) l_sign_of c_sign_of k_sign_of
  have F_kind_of := fun_mk (st := s_kind_of) l_kind_of c_kind_of k_kind_of
  have F_is_name := fun_mk (st := s_is_name) l_is_name c_is_name k_is_name
  have F_law_start := fun_mk (st := s_law_start) l_law_start c_law_start k_law_start
  have F_law_draw := fun_mk (st := s_law_draw) l_law_draw c_law_draw k_law_draw
  have F_law_small := fun_mk (st := s_law_small) l_law_small c_law_small k_law_small
  have F_law_signs := fun_mk (st := s_law_signs) l_law_signs c_law_signs k_law_signs
  have F_law_kind := fun_mk (st := s_law_kind) l_law_kind c_law_kind k_law_kind
  have F_law_text := fun_mk (st := s_law_text) l_law_text c_law_text k_law_text
  have F_law_is := fun_mk (st := s_law_is) l_law_is c_law_is k_law_is
  have F_law_told := fun_mk (st := s_law_told) l_law_told c_law_told k_law_told
  have F_law_pair := fun_mk (st := s_law_pair) l_law_pair c_law_pair k_law_pair
  have F_law_alphabet := fun_mk (st := s_law_alphabet) l_law_alphabet c_law_alphabet k_law_alphabet
  have F_law_first_wrong := fun_mk (st := s_law_first_wrong) l_law_first_wrong c_law_first_wrong k_law_first_wrong
  have F_law_named := fun_mk (st := s_law_named) l_law_named c_law_named k_law_named
  have F_law_checked := fun_mk (st := s_law_checked) l_law_checked c_law_checked k_law_checked
  have F_law_value := fun_mk (st := s_law_value) l_law_value c_law_value k_law_value
  have F_law_name := fun_mk (st := s_law_name) l_law_name c_law_name k_law_name
  have F_law_values := fun_mk (st := s_law_values) l_law_values c_law_values k_law_values
  have F_law_refused_spot := fun_mk (st := s_law_refused_spot) l_law_refused_spot c_law_refused_spot k_law_refused_spot
  have F_law_refused_line := fun_mk (st := s_law_refused_line) l_law_refused_line c_law_refused_line k_law_refused_line
  have F_law_rows := fun_mk (st := s_law_rows) l_law_rows c_law_rows k_law_rows
  have F_law_walk := fun_mk (st := s_law_walk) l_law_walk c_law_walk k_law_walk
  have F_law_lines := fun_mk (st := s_law_lines) l_law_lines c_law_lines k_law_lines
  have F_law := fun_mk (st := s_law) l_law c_law k_law
  have F_BadText := fun_mk (st := s_init_BadText) li_BadText ci_BadText ki_BadText
  have F_BadPlace := fun_mk (st := s_init_BadPlace) li_BadPlace ci_BadPlace ki_BadPlace
  have F_TooMuch := fun_mk (st := s_init_TooMuch) li_TooMuch ci_TooMuch ki_TooMuch
  let T : Txt K mg := {
    a_rows_of := _, d_rows_of := _, F_rows_of := F_rows_of, g_rows_of := PySem.W.mg_of X G a_rows_of,
    b_rows_of := F_rows_of.binds (ps := ["text"]) (fun _ _ _ _ _ _ us hl => match us, hl with | [_], _ => rfl),
    a_joined := _, d_joined := _, F_joined := F_joined, g_joined := PySem.W.mg_of X G a_joined,
    b_joined := F_joined.binds (ps := ["rows"]) (fun _ _ _ _ _ _ us hl => match us, hl with | [_], _ => rfl),
    a_spot_of := _, d_spot_of := _, F_spot_of := F_spot_of, g_spot_of := PySem.W.mg_of X G a_spot_of,
    b_spot_of := F_spot_of.binds (ps := ["text", "place"]) (fun _ _ _ _ _ _ us hl => match us, hl with | [_, _], _ => rfl),
    a_place_of := _, d_place_of := _, F_place_of := F_place_of, g_place_of := PySem.W.mg_of X G a_place_of,
    b_place_of := F_place_of.binds (ps := ["text", "line", "column"]) (fun _ _ _ _ _ _ us hl => match us, hl with | [_, _, _], _ => rfl),
    a_row_bounds := _, d_row_bounds := _, F_row_bounds := F_row_bounds, g_row_bounds := PySem.W.mg_of X G a_row_bounds,
    b_row_bounds := F_row_bounds.binds (ps := ["text", "line"]) (fun _ _ _ _ _ _ us hl => match us, hl with | [_, _], _ => rfl),
    a_first_strange := _, d_first_strange := _, F_first_strange := F_first_strange, g_first_strange := PySem.W.mg_of X G a_first_strange,
    b_first_strange := F_first_strange.binds (ps := ["text"]) (fun _ _ _ _ _ _ us hl => match us, hl with | [_], _ => rfl),
    a_is_text := _, d_is_text := _, F_is_text := F_is_text, g_is_text := PySem.W.mg_of X G a_is_text,
    b_is_text := F_is_text.binds (ps := ["thing"]) (fun _ _ _ _ _ _ us hl => match us, hl with | [_], _ => rfl),
    a_check_text := _, d_check_text := _, F_check_text := F_check_text, g_check_text := PySem.W.mg_of X G a_check_text,
    b_check_text := F_check_text.binds (ps := ["thing", "most"]) (fun _ _ _ _ _ _ us hl => match us, hl with | [_, _], _ => rfl),
    a_code_of := _, d_code_of := _, F_code_of := F_code_of, g_code_of := PySem.W.mg_of X G a_code_of,
    b_code_of := F_code_of.binds (ps := ["sign"]) (fun _ _ _ _ _ _ us hl => match us, hl with | [_], _ => rfl),
    a_sign_of := _, d_sign_of := _, F_sign_of := F_sign_of, g_sign_of := PySem.W.mg_of X G a_sign_of,
    b_sign_of := F_sign_of.binds (ps := ["code"]) (fun _ _ _ _ _ _ us hl => match us, hl with | [_], _ => rfl),
    a_kind_of := _, d_kind_of := _, F_kind_of := F_kind_of, g_kind_of := PySem.W.mg_of X G a_kind_of,
    b_kind_of := F_kind_of.binds (ps := ["sign"]) (fun _ _ _ _ _ _ us hl => match us, hl with | [_], _ => rfl),
    a_is_name := _, d_is_name := _, F_is_name := F_is_name, g_is_name := PySem.W.mg_of X G a_is_name,
    b_is_name := F_is_name.binds (ps := ["thing"]) (fun _ _ _ _ _ _ us hl => match us, hl with | [_], _ => rfl),
    a_law_start := _, d_law_start := _, F_law_start := F_law_start, g_law_start := PySem.W.mg_of X G a_law_start,
    b_law_start := F_law_start.binds (ps := ["_law_script"]) (fun _ _ _ _ _ _ us hl => match us, hl with | [_], _ => rfl),
    a_law_draw := _, d_law_draw := _, F_law_draw := F_law_draw, g_law_draw := PySem.W.mg_of X G a_law_draw,
    b_law_draw := F_law_draw.binds (ps := ["_law_state", "_law_many"]) (fun _ _ _ _ _ _ us hl => match us, hl with | [_, _], _ => rfl),
    a_law_small := _, d_law_small := _, F_law_small := F_law_small, g_law_small := PySem.W.mg_of X G a_law_small,
    b_law_small := F_law_small.binds (ps := []) (fun _ _ _ _ _ _ us hl => match us, hl with | [], _ => rfl),
    a_law_signs := _, d_law_signs := _, F_law_signs := F_law_signs, g_law_signs := PySem.W.mg_of X G a_law_signs,
    b_law_signs := F_law_signs.binds (ps := []) (fun _ _ _ _ _ _ us hl => match us, hl with | [], _ => rfl),
    a_law_kind := _, d_law_kind := _, F_law_kind := F_law_kind, g_law_kind := PySem.W.mg_of X G a_law_kind,
    b_law_kind := F_law_kind.binds (ps := ["_law_sign"]) (fun _ _ _ _ _ _ us hl => match us, hl with | [_], _ => rfl),
    a_law_text := _, d_law_text := _, F_law_text := F_law_text, g_law_text := PySem.W.mg_of X G a_law_text,
    b_law_text := F_law_text.binds (ps := ["_law_state", "_law_size"]) (fun _ _ _ _ _ _ us hl => match us, hl with | [_, _], _ => rfl),
    a_law_is := _, d_law_is := _, F_law_is := F_law_is, g_law_is := PySem.W.mg_of X G a_law_is,
    b_law_is := F_law_is.binds (ps := ["_law_due", "_law_told_here"]) (fun _ _ _ _ _ _ us hl => match us, hl with | [_, _], _ => rfl),
    a_law_told := _, d_law_told := _, F_law_told := F_law_told, g_law_told := PySem.W.mg_of X G a_law_told,
    b_law_told := F_law_told.binds (ps := ["_law_due", "_law_told_here"]) (fun _ _ _ _ _ _ us hl => match us, hl with | [_, _], _ => rfl),
    a_law_pair := _, d_law_pair := _, F_law_pair := F_law_pair, g_law_pair := PySem.W.mg_of X G a_law_pair,
    b_law_pair := F_law_pair.binds (ps := ["_law_due", "_law_told_here"]) (fun _ _ _ _ _ _ us hl => match us, hl with | [_, _], _ => rfl),
    a_law_alphabet := _, d_law_alphabet := _, F_law_alphabet := F_law_alphabet, g_law_alphabet := PySem.W.mg_of X G a_law_alphabet,
    b_law_alphabet := F_law_alphabet.binds (ps := ["_law_state"]) (fun _ _ _ _ _ _ us hl => match us, hl with | [_], _ => rfl),
    a_law_first_wrong := _, d_law_first_wrong := _, F_law_first_wrong := F_law_first_wrong, g_law_first_wrong := PySem.W.mg_of X G a_law_first_wrong,
    b_law_first_wrong := F_law_first_wrong.binds (ps := ["_law_thing"]) (fun _ _ _ _ _ _ us hl => match us, hl with | [_], _ => rfl),
    a_law_named := _, d_law_named := _, F_law_named := F_law_named, g_law_named := PySem.W.mg_of X G a_law_named,
    b_law_named := F_law_named.binds (ps := ["_law_thing"]) (fun _ _ _ _ _ _ us hl => match us, hl with | [_], _ => rfl),
    a_law_checked := _, d_law_checked := _, F_law_checked := F_law_checked, g_law_checked := PySem.W.mg_of X G a_law_checked,
    b_law_checked := F_law_checked.binds (ps := ["_law_thing", "_law_most"]) (fun _ _ _ _ _ _ us hl => match us, hl with | [_, _], _ => rfl),
    a_law_value := _, d_law_value := _, F_law_value := F_law_value, g_law_value := PySem.W.mg_of X G a_law_value,
    b_law_value := F_law_value.binds (ps := ["_law_state", "_law_thing"]) (fun _ _ _ _ _ _ us hl => match us, hl with | [_, _], _ => rfl),
    a_law_name := _, d_law_name := _, F_law_name := F_law_name, g_law_name := PySem.W.mg_of X G a_law_name,
    b_law_name := F_law_name.binds (ps := ["_law_state", "_law_size"]) (fun _ _ _ _ _ _ us hl => match us, hl with | [_, _], _ => rfl),
    a_law_values := _, d_law_values := _, F_law_values := F_law_values, g_law_values := PySem.W.mg_of X G a_law_values,
    b_law_values := F_law_values.binds (ps := ["_law_state"]) (fun _ _ _ _ _ _ us hl => match us, hl with | [_], _ => rfl),
    a_law_refused_spot := _, d_law_refused_spot := _, F_law_refused_spot := F_law_refused_spot, g_law_refused_spot := PySem.W.mg_of X G a_law_refused_spot,
    b_law_refused_spot := F_law_refused_spot.binds (ps := ["_law_text_here", "_law_place"]) (fun _ _ _ _ _ _ us hl => match us, hl with | [_, _], _ => rfl),
    a_law_refused_line := _, d_law_refused_line := _, F_law_refused_line := F_law_refused_line, g_law_refused_line := PySem.W.mg_of X G a_law_refused_line,
    b_law_refused_line := F_law_refused_line.binds (ps := ["_law_text_here", "_law_line"]) (fun _ _ _ _ _ _ us hl => match us, hl with | [_, _], _ => rfl),
    a_law_rows := _, d_law_rows := _, F_law_rows := F_law_rows, g_law_rows := PySem.W.mg_of X G a_law_rows,
    b_law_rows := F_law_rows.binds (ps := ["_law_text_here", "_law_told_here", "_law_rows_here"]) (fun _ _ _ _ _ _ us hl => match us, hl with | [_, _, _], _ => rfl),
    a_law_walk := _, d_law_walk := _, F_law_walk := F_law_walk, g_law_walk := PySem.W.mg_of X G a_law_walk,
    b_law_walk := F_law_walk.binds (ps := ["_law_text_here"]) (fun _ _ _ _ _ _ us hl => match us, hl with | [_], _ => rfl),
    a_law_lines := _, d_law_lines := _, F_law_lines := F_law_lines, g_law_lines := PySem.W.mg_of X G a_law_lines,
    b_law_lines := F_law_lines.binds (ps := ["_law_state", "_law_text_here", "_law_every"]) (fun _ _ _ _ _ _ us hl => match us, hl with | [_, _, _], _ => rfl),
    a_law := _, d_law := _, F_law := F_law, g_law := PySem.W.mg_of X G a_law,
    b_law := F_law.binds (ps := ["_law_script"]) (fun _ _ _ _ _ _ us hl => match us, hl with | [_], _ => rfl),
    c_BadText := C_BadText, ai_BadText := fi_BadText, d_BadText := _, F_BadText := F_BadText, b_BadText := F_BadText.binds (ps := ["self", "at"]) (fun _ _ _ _ _ _ us hl => match us, hl with | [_, _], _ => rfl), g_BadText := PySem.W.mg_of X G aC_BadText,
    o_BadText := ⟨⟨_, _, _, _, _, _, _, _, _, _, _, _, _, _, _, xL_BadText, rfl⟩, sa_BadText, eC_BadText, tC_BadText, kC_BadText⟩, x_BadText := ⟨ga_BadText, gg_BadText, eC_BadText, hC_BadText⟩,
    i_BadText := iC_BadText, ti_BadText := ti_BadText, e_BadText := exm_self eC_BadText yC_BadText tC_BadText sC_BadText,
    na_BadText_at := na_BadText_at,
    c_BadPlace := C_BadPlace, ai_BadPlace := fi_BadPlace, d_BadPlace := _, F_BadPlace := F_BadPlace, b_BadPlace := F_BadPlace.binds (ps := ["self", "at"]) (fun _ _ _ _ _ _ us hl => match us, hl with | [_, _], _ => rfl), g_BadPlace := PySem.W.mg_of X G aC_BadPlace,
    o_BadPlace := ⟨⟨_, _, _, _, _, _, _, _, _, _, _, _, _, _, _, xL_BadPlace, rfl⟩, sa_BadPlace, eC_BadPlace, tC_BadPlace, kC_BadPlace⟩, x_BadPlace := ⟨ga_BadPlace, gg_BadPlace, eC_BadPlace, hC_BadPlace⟩,
    i_BadPlace := iC_BadPlace, ti_BadPlace := ti_BadPlace, e_BadPlace := exm_self eC_BadPlace yC_BadPlace tC_BadPlace sC_BadPlace,
    na_BadPlace_at := na_BadPlace_at,
    c_TooMuch := C_TooMuch, ai_TooMuch := fi_TooMuch, d_TooMuch := _, F_TooMuch := F_TooMuch, b_TooMuch := F_TooMuch.binds (ps := ["self", "what"]) (fun _ _ _ _ _ _ us hl => match us, hl with | [_, _], _ => rfl), g_TooMuch := PySem.W.mg_of X G aC_TooMuch,
    o_TooMuch := ⟨⟨_, _, _, _, _, _, _, _, _, _, _, _, _, _, _, xL_TooMuch, rfl⟩, sa_TooMuch, eC_TooMuch, tC_TooMuch, kC_TooMuch⟩, x_TooMuch := ⟨ga_TooMuch, gg_TooMuch, eC_TooMuch, hC_TooMuch⟩,
    i_TooMuch := iC_TooMuch, ti_TooMuch := ti_TooMuch, e_TooMuch := exm_self eC_TooMuch yC_TooMuch tC_TooMuch sC_TooMuch,
    na_TooMuch_what := na_TooMuch_what,
    u_TooMuch_BadText := PySem.W.exm_ref eC_BadText hC_BadText tC_BadText sU_TooMuch_BadText,
    q_BadText := ⟨ga_BadText, gg_BadText, eC_BadText, hC_BadText, cc_BadText, ocn, oct, cm_BadText⟩,
    q_BadPlace := ⟨ga_BadPlace, gg_BadPlace, eC_BadPlace, hC_BadPlace, cc_BadPlace, ocn, oct, cm_BadPlace⟩,
    q_TooMuch := ⟨ga_TooMuch, gg_TooMuch, eC_TooMuch, hC_TooMuch, cc_TooMuch, ocn, oct, cm_TooMuch⟩,
    t_DIGITS := tk_DIGITS, g_DIGITS := PySem.W.mg_of X G v_DIGITS,
    t_SMALL_LETTERS := tk_SMALL_LETTERS, g_SMALL_LETTERS := PySem.W.mg_of X G v_SMALL_LETTERS,
    t_LETTERS := tk_LETTERS, g_LETTERS := PySem.W.mg_of X G v_LETTERS,
    t_ALPHABET := tk_ALPHABET, g_ALPHABET := PySem.W.mg_of X G v_ALPHABET,
    t_LONGEST_NAME := tk_LONGEST_NAME, g_LONGEST_NAME := PySem.W.mg_of X G v_LONGEST_NAME,
    n_all := PySem.W.mg_none_of X G z_all,
    n_bool := PySem.W.mg_none_of X G z_bool,
    n_enumerate := PySem.W.mg_none_of X G z_enumerate,
    n_int := PySem.W.mg_none_of X G z_int,
    n_isinstance := PySem.W.mg_none_of X G z_isinstance,
    n_len := PySem.W.mg_none_of X G z_len,
    n_list := PySem.W.mg_none_of X G z_list,
    n_max := PySem.W.mg_none_of X G z_max,
    n_min := PySem.W.mg_none_of X G z_min,
    n_range := PySem.W.mg_none_of X G z_range,
    n_str := PySem.W.mg_none_of X G z_str,
    n_sum := PySem.W.mg_none_of X G z_sum,
    n_tuple := PySem.W.mg_none_of X G z_tuple }
  exact ⟨PySem.W.fnOf "law" "law" (defArgs s_law) (defBody s_law) (defScope s_law) .none kV_law dc_law pm_law an_law cd_law ct_law, fun s v => .of_eq rfl, fun base _ _ => ok_law T⟩
end K17
open PySem PySem.W PyProof.Rows
set_option maxHeartbeats 0 in
theorem PySem.Challenge.cw_deedstand_k17_whole_signs_rows_spots_holds : PySem.Challenge.rw_deedstand_k17_whole_signs_rows_spots.Holds := by
  w_on; o_law; k_head; (case hw => w_witness2)
  k_fill
  refine L2.walk_of (l := PySem.Challenge.rw_deedstand_k17_whole_signs_rows_spots) (n := 63) (k := 7) (x := "_law_script") (CX := fun _ => L2.CX0) (sp := fun w => K17.sp_law _) rfl (by decide) rfl ⟨rfl, by decide, by decide⟩ (fun w h Y => PySem.W.kIn_of Y) ?F (fun _ _ a ns hl _ hS => ⟨a, ns, rfl, hS, hl, fun _ => rfl⟩) (fun _ _ _ _ _ h => h)
  case F =>
    intro w mg fa h KX G hmg
    refine' K17.all_mk KX G hmg ?a_rows_of ?l_rows_of ?c_rows_of ?k_rows_of ?a_joined ?l_joined ?c_joined ?k_joined ?a_spot_of ?l_spot_of ?c_spot_of ?k_spot_of ?a_place_of ?l_place_of ?c_place_of ?k_place_of ?a_row_bounds ?l_row_bounds ?c_row_bounds ?k_row_bounds ?a_first_strange ?l_first_strange ?c_first_strange ?k_first_strange ?a_is_text ?l_is_text ?c_is_text ?k_is_text ?a_check_text ?l_check_text ?c_check_text ?k_check_text ?a_code_of ?l_code_of ?c_code_of ?k_code_of ?a_sign_of ?l_sign_of ?c_sign_of ?k_sign_of ?a_kind_of ?l_kind_of ?c_kind_of ?k_kind_of ?a_is_name ?l_is_name ?c_is_name ?k_is_name ?a_law_start ?l_law_start ?c_law_start ?k_law_start ?a_law_draw ?l_law_draw ?c_law_draw ?k_law_draw ?a_law_small ?l_law_small ?c_law_small ?k_law_small ?a_law_signs ?l_law_signs ?c_law_signs ?k_law_signs ?a_law_kind ?l_law_kind ?c_law_kind ?k_law_kind ?a_law_text ?l_law_text ?c_law_text ?k_law_text ?a_law_is ?l_law_is ?c_law_is ?k_law_is ?a_law_told ?l_law_told ?c_law_told ?k_law_told ?a_law_pair ?l_law_pair ?c_law_pair ?k_law_pair ?a_law_alphabet ?l_law_alphabet ?c_law_alphabet ?k_law_alphabet ?a_law_first_wrong ?l_law_first_wrong ?c_law_first_wrong ?k_law_first_wrong ?a_law_named ?l_law_named ?c_law_named ?k_law_named ?a_law_checked ?l_law_checked ?c_law_checked ?k_law_checked ?a_law_value ?l_law_value ?c_law_value ?k_law_value ?a_law_name ?l_law_name ?c_law_name ?k_law_name ?a_law_values ?l_law_values ?c_law_values ?k_law_values ?a_law_refused_spot ?l_law_refused_spot ?c_law_refused_spot ?k_law_refused_spot ?a_law_refused_line ?l_law_refused_line ?c_law_refused_line ?k_law_refused_line ?a_law_rows ?l_law_rows ?c_law_rows ?k_law_rows ?a_law_walk ?l_law_walk ?c_law_walk ?k_law_walk ?a_law_lines ?l_law_lines ?c_law_lines ?k_law_lines ?a_law ?l_law ?c_law ?k_law ?aC_BadText ?xL_BadText ?sa_BadText ?ga_BadText ?gg_BadText ?na_BadText_at ?iC_BadText ?ti_BadText ?li_BadText ?ci_BadText ?ki_BadText ?kC_BadText ?eC_BadText ?tC_BadText ?hC_BadText ?yC_BadText ?sC_BadText ?aC_BadPlace ?xL_BadPlace ?sa_BadPlace ?ga_BadPlace ?gg_BadPlace ?na_BadPlace_at ?iC_BadPlace ?ti_BadPlace ?li_BadPlace ?ci_BadPlace ?ki_BadPlace ?kC_BadPlace ?eC_BadPlace ?tC_BadPlace ?hC_BadPlace ?yC_BadPlace ?sC_BadPlace ?aC_TooMuch ?xL_TooMuch ?sa_TooMuch ?ga_TooMuch ?gg_TooMuch ?na_TooMuch_what ?iC_TooMuch ?ti_TooMuch ?li_TooMuch ?ci_TooMuch ?ki_TooMuch ?kC_TooMuch ?eC_TooMuch ?tC_TooMuch ?hC_TooMuch ?yC_TooMuch ?sC_TooMuch ?sU_TooMuch_BadText ?ocn ?oct ?cc_BadText ?cm_BadText ?cc_BadPlace ?cm_BadPlace ?cc_TooMuch ?cm_TooMuch ?v_DIGITS ?v_SMALL_LETTERS ?v_LETTERS ?v_ALPHABET ?v_LONGEST_NAME ?z_all ?z_bool ?z_enumerate ?z_int ?z_isinstance ?z_len ?z_list ?z_max ?z_min ?z_range ?z_str ?z_sum ?z_tuple
    (case a_rows_of => k_is)
    (case l_rows_of => k_is)
    (case c_rows_of => k_is)
    (case k_rows_of => k_is)
    (case a_joined => k_is)
    (case l_joined => k_is)
    (case c_joined => k_is)
    (case k_joined => k_is)
    (case a_spot_of => k_is)
    (case l_spot_of => k_is)
    (case c_spot_of => k_is)
    (case k_spot_of => k_is)
    (case a_place_of => k_is)
    (case l_place_of => k_is)
    (case c_place_of => k_is)
    (case k_place_of => k_is)
    (case a_row_bounds => k_is)
    (case l_row_bounds => k_is)
    (case c_row_bounds => k_is)
    (case k_row_bounds => k_is)
    (case a_first_strange => k_is)
    (case l_first_strange => k_is)
    (case c_first_strange => k_is)
    (case k_first_strange => k_is)
    (case a_is_text => k_is)
    (case l_is_text => k_is)
    (case c_is_text => k_is)
    (case k_is_text => k_is)
    (case a_check_text => k_is)
    (case l_check_text => k_is)
    (case c_check_text => k_is)
    (case k_check_text => k_is)
    (case a_code_of => k_is)
    (case l_code_of => k_is)
    (case c_code_of => k_is)
    (case k_code_of => k_is)
    (case a_sign_of => k_is)
    (case l_sign_of => k_is)
    (case c_sign_of => k_is)
    (case k_sign_of => k_is)
    (case a_kind_of => k_is)
    (case l_kind_of => k_is)
    (case c_kind_of => k_is)
    (case k_kind_of => k_is)
    (case a_is_name => k_is)
    (case l_is_name => k_is)
    (case c_is_name => k_is)
    (case k_is_name => k_is)
    (case a_law_start => k_is)
    (case l_law_start => k_is)
    (case c_law_start => k_is)
    (case k_law_start => k_is)
    (case a_law_draw => k_is)
    (case l_law_draw => k_is)
    (case c_law_draw => k_is)
    (case k_law_draw => k_is)
    (case a_law_small => k_is)
    (case l_law_small => k_is)
    (case c_law_small => k_is)
    (case k_law_small => k_is)
    (case a_law_signs => k_is)
    (case l_law_signs => k_is)
    (case c_law_signs => k_is)
    (case k_law_signs => k_is)
    (case a_law_kind => k_is)
    (case l_law_kind => k_is)
    (case c_law_kind => k_is)
    (case k_law_kind => k_is)
    (case a_law_text => k_is)
    (case l_law_text => k_is)
    (case c_law_text => k_is)
    (case k_law_text => k_is)
    (case a_law_is => k_is)
    (case l_law_is => k_is)
    (case c_law_is => k_is)
    (case k_law_is => k_is)
    (case a_law_told => k_is)
    (case l_law_told => k_is)
    (case c_law_told => k_is)
    (case k_law_told => k_is)
    (case a_law_pair => k_is)
    (case l_law_pair => k_is)
    (case c_law_pair => k_is)
    (case k_law_pair => k_is)
    (case a_law_alphabet => k_is)
    (case l_law_alphabet => k_is)
    (case c_law_alphabet => k_is)
    (case k_law_alphabet => k_is)
    (case a_law_first_wrong => k_is)
    (case l_law_first_wrong => k_is)
    (case c_law_first_wrong => k_is)
    (case k_law_first_wrong => k_is)
    (case a_law_named => k_is)
    (case l_law_named => k_is)
    (case c_law_named => k_is)
    (case k_law_named => k_is)
    (case a_law_checked => k_is)
    (case l_law_checked => k_is)
    (case c_law_checked => k_is)
    (case k_law_checked => k_is)
    (case a_law_value => k_is)
    (case l_law_value => k_is)
    (case c_law_value => k_is)
    (case k_law_value => k_is)
    (case a_law_name => k_is)
    (case l_law_name => k_is)
    (case c_law_name => k_is)
    (case k_law_name => k_is)
    (case a_law_values => k_is)
    (case l_law_values => k_is)
    (case c_law_values => k_is)
    (case k_law_values => k_is)
    (case a_law_refused_spot => k_is)
    (case l_law_refused_spot => k_is)
    (case c_law_refused_spot => k_is)
    (case k_law_refused_spot => k_is)
    (case a_law_refused_line => k_is)
    (case l_law_refused_line => k_is)
    (case c_law_refused_line => k_is)
    (case k_law_refused_line => k_is)
    (case a_law_rows => k_is)
    (case l_law_rows => k_is)
    (case c_law_rows => k_is)
    (case k_law_rows => k_is)
    (case a_law_walk => k_is)
    (case l_law_walk => k_is)
    (case c_law_walk => k_is)
    (case k_law_walk => k_is)
    (case a_law_lines => k_is)
    (case l_law_lines => k_is)
    (case c_law_lines => k_is)
    (case k_law_lines => k_is)
    (case a_law => k_is)
    (case l_law => k_is)
    (case c_law => k_is)
    (case k_law => k_is)
    (case aC_BadText => k_is)
    (case xL_BadText => k_is)
    (case sa_BadText => k_is)
    (case ga_BadText => k_is)
    (case gg_BadText => k_is)
    (case na_BadText_at => k_is)
    (case iC_BadText => k_is)
    (case ti_BadText => k_is)
    (case li_BadText => k_is)
    (case ci_BadText => k_is)
    (case ki_BadText => k_is)
    (case kC_BadText => k_is)
    (case eC_BadText => k_is)
    (case tC_BadText => k_is)
    (case hC_BadText => k_is)
    (case yC_BadText => k_is)
    (case sC_BadText => first | rfl | k_is)
    (case aC_BadPlace => k_is)
    (case xL_BadPlace => k_is)
    (case sa_BadPlace => k_is)
    (case ga_BadPlace => k_is)
    (case gg_BadPlace => k_is)
    (case na_BadPlace_at => k_is)
    (case iC_BadPlace => k_is)
    (case ti_BadPlace => k_is)
    (case li_BadPlace => k_is)
    (case ci_BadPlace => k_is)
    (case ki_BadPlace => k_is)
    (case kC_BadPlace => k_is)
    (case eC_BadPlace => k_is)
    (case tC_BadPlace => k_is)
    (case hC_BadPlace => k_is)
    (case yC_BadPlace => k_is)
    (case sC_BadPlace => first | rfl | k_is)
    (case aC_TooMuch => k_is)
    (case xL_TooMuch => k_is)
    (case sa_TooMuch => k_is)
    (case ga_TooMuch => k_is)
    (case gg_TooMuch => k_is)
    (case na_TooMuch_what => k_is)
    (case iC_TooMuch => k_is)
    (case ti_TooMuch => k_is)
    (case li_TooMuch => k_is)
    (case ci_TooMuch => k_is)
    (case ki_TooMuch => k_is)
    (case kC_TooMuch => k_is)
    (case eC_TooMuch => k_is)
    (case tC_TooMuch => k_is)
    (case hC_TooMuch => k_is)
    (case yC_TooMuch => k_is)
    (case sC_TooMuch => first | rfl | k_is)
    (case sU_TooMuch_BadText => k_is)
    (case ocn => k_is)
    (case oct => k_is)
    (case cc_BadText => k_is)
    (case cm_BadText => k_is)
    (case cc_BadPlace => k_is)
    (case cm_BadPlace => k_is)
    (case cc_TooMuch => k_is)
    (case cm_TooMuch => k_is)
    (case v_DIGITS => k_is)
    (case v_SMALL_LETTERS => k_is)
    (case v_LETTERS => k_is)
    (case v_ALPHABET => k_is)
    (case v_LONGEST_NAME => k_is)
    (case z_all => k_is)
    (case z_bool => k_is)
    (case z_enumerate => k_is)
    (case z_int => k_is)
    (case z_isinstance => k_is)
    (case z_len => k_is)
    (case z_list => k_is)
    (case z_max => k_is)
    (case z_min => k_is)
    (case z_range => k_is)
    (case z_str => k_is)
    (case z_sum => k_is)
    (case z_tuple => k_is)

