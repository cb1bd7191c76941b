import PyProof.Rows.All
import Wide.All
import OpenK.AllK
import Wide.FinOn
import HandS.ForMost
import HandS.SortKw
import HandS.More
import HandS.OwnEq
import HandS.Keys
import KE.SortKeyHeap
import HandS.IsInst
import HandS.TupAny
import HandS.Wide
import HandS.ClsMeth
import HandS.Star
import HandS.CallLocal
import HandS.Codes
import HandS.Flow
import KE.GoesMore
import HandS.Style
import HandS.Head0
import HandS.Head1
import HandS.Head2
import HandS.HeadEnd
import HandS.HeadHook1
import HandS.HeadHook2
import HandS.HeadNt
import PySem.Challenge.RW_speaklast_k02_sets_joined_and_cut
set_option Elab.async false
set_option linter.all false
set_option maxRecDepth 100000
set_option maxHeartbeats 2000000
namespace Spk
open PySem PySem.Spec PyProof.Rows PySem.W L2

/-! ## sorted(xs, key=f), f a def of the program that keeps an L2 promise -/
theorem heap_without (h : Heap) (k : Addr) : ∃ g : Heap, g.get? k = none ∧ ∀ b, b ≠ k → g.get? b = h.get? b := by
  by_cases hk : k < h.objs.size
  · refine ⟨{ h with objs := h.objs.set k ⟨.none, none, .freed, #[]⟩ hk }, ?_, fun b hb => ?_⟩
    · unfold Heap.get?
      simp
    · unfold Heap.get?
      simp only [Array.getElem?_set, if_neg (Ne.symm hb)]
  · refine ⟨h, ?_, fun _ _ => rfl⟩
    unfold Heap.get?
    rw [Array.getElem?_eq_none (Nat.le_of_not_lt hk)]

mutual
theorem dp_same {K : Frag} {H H' : Hp} (e : Same H H') : ∀ (d : PyData) (v : V), Dp K H v d → Dp K H' v d
  | .none, _, h => by cases h; exact .non
  | .bool b, _, h => by cases h; exact .bl b
  | .int i, _, h => by cases h; exact .int i
  | .str x, _, h => by cases h; exact .str x
  | .list ds, _, h => by
    cases h with
    | lst s a => exact .lst (SqL.ext s e) (dps_same e ds _ a)
  | .tuple ds, _, h => by
    cases h with
    | tup s a => exact .tup (SqT.ext s e) (dps_same e ds _ a)
  | .dict _, _, h => by cases h
theorem dps_same {K : Frag} {H H' : Hp} (e : Same H H') : ∀ (ds : List PyData) (vs : List V), DpAll K H vs ds → DpAll K H' vs ds
  | [], _, h => by cases h; exact .nil
  | d :: ds, _, h => by
    cases h with
    | cons a b => exact .cons (dp_same e d _ a) (dps_same e ds _ b)
end

/-- a def that keeps a promise, called somewhere below the running body -/
theorem call_at {X : Cx} {n : Nat} {f : Addr} {sp : Sp} (F : FnR X.prog X.w X.K X.mg X.base CX0 n f sp) {A' : Around} (sb : Sub X n A') {pins : List (Addr × Obj)} {s : Shared} {σ : L2.St} {H : Hp} (I : Inv X pins σ H s)
    {vs : List V} {us : List Value} {Q : VK} {E : Value → Shared → Prop} (r : Vals vs us) (h : sp vs H Q E0) : wpAny (model X.prog X.w) A' (call (.ref f) us) (EP X pins σ Q) E s := by
  have e0 : Env0 X.prog X.w X.K X.mg X.base A' X.stack s H := by
    have e := I.env0
    exact ⟨by rw [sb.fr]; exact e.frames, e.mod, e.bs, e.bsz, e.funs, e.frf, e.hok, e.bare⟩
  refine wpAny_call (codeAny_mono (F A' X.stack s H us vs Q E0 sb.room e0 r h) fun r s' hq => ?_)
  cases r with
  | error e => exact False.elim hq
  | ok fl =>
    cases fl with
    | ret w => exact I.after hq
    | next => exact False.elim hq
    | brk => exact False.elim hq
    | cont => exact False.elim hq

/-- the keys told so far -/
def KeysIn (K : Frag) (H : Hp) : List Value → List PyData → Prop := EachIs fun u d => ∃ v, RelV v u ∧ Dp K H v d

structure KeyLoop (X : Cx) (pins : List (Addr × Obj)) (σ : L2.St) (H : Hp) (a kS : Addr) (e1 : Nat) (kz : List PyData) (i : Nat) (s' : Shared) : Prop where
  ex : ∃ (H' : Hp) (kA : Array Value) (e : Nat), Inv X pins σ H' s' ∧ Same H H' ∧ FpOk X pins H' a ∧ FpOk X pins H' kS ∧ s'.heap.get? kS = some (seqObj "list" kA e) ∧
    s'.heap.get? a = some (seqObj "list" #[] e1) ∧ KeysIn X.K H' kA.toList (kz.take i)

theorem key_turn {X : Cx} {n : Nat} {f : Addr} {sp : Sp} (F : FnR X.prog X.w X.K X.mg X.base CX0 n f sp) {A' : Around} (sb : Sub X n A') {pins : List (Addr × Obj)} {σ : L2.St} {H : Hp} {a kS : Addr} {e1 : Nat} {kz : List PyData} {i : Nat} {s' : Shared}
    (hka : kS ≠ a) {x : V} {u : Value} {d : PyData} (ru : RelV x u) (hd : kz[i]? = some d) (turn : ∀ H', Same H H' → sp [x] H' (fun v H'' => Same H' H'' ∧ Dp X.K H'' v d) E0) (J : KeyLoop X pins σ H a kS e1 kz i s') {E : Value → Shared → Prop} :
    wpAny (model X.prog X.w) A' (call (.ref f) [u]) (fun v s'' => ∃ (kA : Array Value) (e : Nat), s''.heap.get? kS = some (seqObj "list" kA e) ∧ kA.size ≤ i ∧
      ∀ h' : Heap, (∀ b o, b ≠ kS → s''.heap.get? b = some o → h'.get? b = some o) → (∃ e', h'.get? kS = some (seqObj "list" (kA.push v) e')) → KeyLoop X pins σ H a kS e1 kz (i + 1) { s'' with heap := h' }) E s' := by
  obtain ⟨H', kA, e, I, sm, fa, fk, nk, na, ks⟩ := J.ex
  have Ip := I.pinned (fp := [a, kS]) (fun b hb => by
      rcases List.mem_cons.mp hb with rfl | hb
      · exact fa
      · rw [List.mem_singleton.mp hb]; exact fk) (fun b hb => by
      rcases List.mem_cons.mp hb with rfl | hb
      · exact ⟨_, na, fun v z => nomatch z⟩
      · rw [List.mem_singleton.mp hb]; exact ⟨_, nk, fun v z => nomatch z⟩)
  refine wpAny_mono (call_at F sb Ip (.cons ru .nil) (turn H' sm)) (fun v s'' he => ?_) fun _ _ z => z
  obtain ⟨w, H2, I2, rw2, sm2, dp⟩ := he
  have pa := I2.pin (a, _) (List.mem_append_right _ (List.mem_append_right _ (mem_pinsAt (by simp) na)))
  have pk := I2.pin (kS, _) (List.mem_append_right _ (List.mem_append_right _ (mem_pinsAt (by simp) nk)))
  have I3 := I2.unpinned
  have hsz : kA.size ≤ i := by
    have h1 := ks.length
    rw [Array.length_toList, List.length_take] at h1
    omega
  have fk2 : FpOk X pins H2 kS := ⟨pk.2.1, fk.2⟩
  have fa2 : FpOk X pins H2 a := ⟨pa.2.1, fa.2⟩
  refine ⟨kA, e, pk.1, hsz, fun h' keep ⟨e', hk'⟩ => ⟨⟨H2, kA.push v, e', ?_, fun b o q => sm2 b o (sm b o q), fa2, fk2, hk', keep a _ (Ne.symm hka) pa.1, ?_⟩⟩⟩
  · exact I3.turnedL (t' := s''.toks) (ch := [kS]) (fun b o hb q => keep b o (by simpa using hb) q) (fun b hb => by rw [List.mem_singleton.mp hb]; exact fk2)
  · have ek : kz.take (i + 1) = kz.take i ++ [d] := by rw [List.take_add_one, hd]; simp
    have ea : (kA.push v).toList = kA.toList ++ [v] := by simp
    rw [ea, ek]
    unfold KeysIn
    refine each_snoc ⟨w, rw2, dp⟩ ?_
    exact EachIs.mono (fun u d ⟨z, rz, dz⟩ => ⟨z, rz, dp_same sm2 d z dz⟩) ks

/-- the items in the order of their keys -/
def byKeys (xs : List V) (kz : List PyData) : List V := ((xs.zip kz).mergeSort (dataLe false (·.2))).map (·.1)

theorem each_vals : ∀ {vs : List Value} {bs : List (V × PyData)}, EachIs (fun u (b : V × PyData) => RelV b.1 u) vs bs → Vals (bs.map (·.1)) vs := by
  intro vs bs h
  induction h with
  | nil => exact .nil
  | cons r _ ih => exact .cons r ih
theorem each_zip : ∀ {xs : List V} {vs : List Value} {kz : List PyData}, Vals xs vs → kz.length = xs.length → EachIs (fun u (b : V × PyData) => RelV b.1 u) vs (xs.zip kz)
  | _, _, [], .nil, _ => .nil
  | _, _, d :: kz, .cons r t, h => .cons r (each_zip t (by simpa using h))
  | _, _, [], .cons _ _, h => by simp at h
  | _, _, _ :: _, .nil, h => by simp at h

theorem sort_rest {X : Cx} {n : Nat} {f : Addr} {sp : Sp} (F : FnR X.prog X.w X.K X.mg X.base CX0 n f sp) {A' : Around} (sb : Sub X n A') {pins : List (Addr × Obj)} {σ : L2.St} {H : Hp} {a kS : Addr} {e1 : Nat} {kz : List PyData} {s : Shared} {xs : List V} {vs : List Value}
    (hka : kS ≠ a) (r : Vals xs vs) (hlen : kz.length = xs.length) (hZ : xs.length ≤ sizeLine) (hal : AllAlike kz) (hsk : Sortable kz) (hdep : ∀ d, d ∈ kz → A'.units + d.depth < cLine)
    (turn : ∀ (i : Nat) x d, xs[i]? = some x → kz[i]? = some d → ∀ H', Same H H' → sp [x] H' (fun v H'' => Same H' H'' ∧ Dp X.K H'' v d) E0)
    (J : KeyLoop X pins σ H a kS e1 kz 0 s) {P : PySem.Fin → Shared → Prop} {E : Value → Shared → Prop}
    (q : ∀ (H' : Hp) (s' : Shared) (out : List Value) (c : Nat), Inv X pins σ H' s' → Same H H' → FpOk X pins H' a → s'.heap.get? a = some (seqObj "list" out.toArray c) → Vals (byKeys xs kz) out → P (.done (.ret .none)) s') :
    wpAny (model X.prog X.w) A' (ksk_rest a (.ref f) false vs.toArray e1 (.ref kS)) P E s := by
  have hvl : vs.length = xs.length := r.length.symm
  unfold ksk_rest
  refine wpAny_bind (wpAny_rule ?_)
  rw [← Array.forIn_toList]
  refine wpAny_bind (ksk_fold (fun i s' => KeyLoop X pins σ H a kS e1 kz i s') vs 0 s J ?step ?done)
  case step =>
    intro j u s' hu J'
    simp only [Nat.zero_add] at J' ⊢
    have hj : j < vs.length := (List.getElem?_eq_some_iff.mp hu).1
    have hjx : j < xs.length := by omega
    obtain ⟨u', hu', ru⟩ := r.get (i := j) (List.getElem?_eq_getElem hjx)
    rw [hu] at hu'
    cases hu'
    have hjk : j < kz.length := by omega
    refine wpAny_bind (wpAny_attempt (wpAny_mono (key_turn F sb hka ru (List.getElem?_eq_getElem hjk) (turn j _ _ (List.getElem?_eq_getElem hjx) (List.getElem?_eq_getElem hjk)) J') (fun v s'' he => ?_) fun _ _ hF => hF))
    obtain ⟨kA, e, nk, hs, go⟩ := he
    try dsimp only
    have s1 := Heap.SameBut.update s''.heap kS (Obj.mapSeq (·.push v))
    have hks : kA.size ≤ sizeLine := by omega
    refine wpAny_bind (listUpdate_at nk rfl ?_ hks (Nat.le_trans (Nat.le_of_eq (Array.size_push ..)) (Nat.succ_le_succ hks)))
    exact wpAny_pure ⟨rfl, go _ (fun b o hb z => (s1.2 b hb).trans z) ⟨_, get?_update_seq nk (·.push v)⟩⟩
  case done =>
    intro s' J'
    obtain ⟨H', kA, e, I, sm, fa, fk, nk, na, ks⟩ := J'.ex
    rw [Nat.zero_add, hvl, ← hlen, List.take_length] at ks
    have hk' : EachIs (fun v k => ∃ as, Reads s'.heap v k as) kA.toList kz := EachIs.mono (fun u d ⟨z, rz, dz⟩ => Dp.reads I d z u dz rz) ks
    have hsz : kA.size = vs.length := by
      have h1 := hk'.length
      rw [Array.length_toList] at h1
      omega
    refine wpAny_bind (listItems_at nk rfl ?_)
    obtain ⟨g, g0, g1⟩ := heap_without s'.heap kS
    have kp : KeepsBut a g s'.heap := fun b o _ z => by
      by_cases hb : b = kS
      · rw [hb, g0] at z; cases z
      · rw [← g1 b hb]; exact z
    refine keyH_end (κ := dataKind s'.heap kz) (h₁ := g) kp g0 nk na hka (SortsAt.data hk' hal hsk hdep) hsz (by omega) fun h3 tk3 c k3 n3 => ?_
    have keep : ∀ b o, b ∉ [a, kS] → s'.heap.get? b = some o → h3.get? b = some o := fun b o hb z => by
      simp only [List.mem_cons, List.not_mem_nil, or_false, not_or] at hb
      exact k3 b o hb.1 (by rw [g1 b hb.2]; exact z)
    refine q H' _ _ c (I.turnedL (ch := [a, kS]) keep (fun b hb => ?_)) sm fa n3 ?_
    · rcases List.mem_cons.mp hb with rfl | hb
      · exact fa
      · rw [List.mem_singleton.mp hb]; exact fk
    · have ko : KeyedOut false ((xs.zip kz).map (·.2)) vs (sortVals (dataKind s'.heap kz) false kA.toList vs) := by
        rw [List.map_snd_zip (by omega)]
        exact ⟨s'.heap, kA.toList, hal, rfl, hk'⟩
      exact each_vals (keyedOut_each (·.2) ko (each_zip r hlen))

theorem sort_tree {X : Cx} {n : Nat} {f : Addr} {sp : Sp} (F : FnR X.prog X.w X.K X.mg X.base CX0 n f sp) {A' : Around} (sb : Sub X n A') {pins : List (Addr × Obj)} {σ : L2.St} {H : Hp} {kz : List PyData} {s : Shared} {xs : List V} {vs : List Value}
    (I : Inv X pins σ H s) (r : Vals xs vs) (hlen : kz.length = xs.length) (hZ : xs.length ≤ sizeLine) (hal : AllAlike kz) (hsk : Sortable kz) (hdep : ∀ d, d ∈ kz → A'.units + d.depth < cLine)
    (turn : ∀ (i : Nat) x d, xs[i]? = some x → kz[i]? = some d → ∀ H', Same H H' → sp [x] H' (fun v H'' => Same H' H'' ∧ Dp X.K H'' v d) E0)
    {P : PySem.Fin → Shared → Prop} {E : Value → Shared → Prop}
    (q : ∀ (H' : Hp) (s' : Shared), Inv X pins σ (upd H' s.heap.objs.size (.lst (byKeys xs kz))) s' → Same H H' → H' s.heap.objs.size = none → P (.done (.ret .none)) s') :
    wpAny (model X.prog X.w) A' (ksk_tree s.heap.objs.size (.ref f) false) P E { s with heap := s.heap.push (seqObj "list" vs.toArray 0) } := by
  have hvl : vs.length = xs.length := r.length.symm
  have hvz : vs.toArray.size ≤ sizeLine := by rw [List.size_toArray]; omega
  have ho : (s.heap.push (seqObj "list" vs.toArray 0)).get? s.heap.objs.size = some (seqObj "list" vs.toArray 0) := Heap.get?_push_size _ rfl
  have s1 := Heap.SameBut.update (s.heap.push (seqObj "list" vs.toArray 0)) s.heap.objs.size (Obj.mapSeq fun _ => (#[] : Array Value))
  obtain ⟨e1, ho1⟩ : ∃ e1, ((s.heap.push (seqObj "list" vs.toArray 0)).update s.heap.objs.size (Obj.mapSeq fun _ => (#[] : Array Value))).get? s.heap.objs.size = some (seqObj "list" #[] e1) :=
    ⟨_, get?_update_seq ho fun _ => #[]⟩
  have hk : (((s.heap.push (seqObj "list" vs.toArray 0)).update s.heap.objs.size (Obj.mapSeq fun _ => (#[] : Array Value))).push (seqObj "tuple" vs.toArray 0)).objs.size = s.heap.objs.size + 2 := by
    rw [size_push', Heap.size_update, size_push']
  have Ha : H s.heap.objs.size = none := I.hok.fresh (Nat.le_refl _)
  have Hk : H (s.heap.objs.size + 2) = none := I.hok.fresh (Nat.le_add_right _ _)
  unfold ksk_tree
  refine wpAny_bind (listItems_at ho rfl ?_)
  refine wpAny_bind (listUpdate_at ho rfl ?_ hvz (Nat.zero_le _))
  refine wpAny_bind (seqEpoch_at ho1 rfl ?_)
  refine wpAny_bind (wpAny_newTuple ?_ (by show vs.length ≤ _; omega))
  refine wpAny_bind (wpAny_newList ?_ (Nat.zero_le _))
  refine wpAny_holding ?_
  rw [hk]
  refine sort_rest F sb (pins := pins) (σ := σ) (H := H) (a := s.heap.objs.size) (kS := s.heap.objs.size + 2) (Nat.ne_of_gt (Nat.lt_add_of_pos_right (by decide))) r hlen hZ hal hsk hdep turn ⟨H, #[], 0, ?_, Same.refl H, I.fpOk (Nat.le_refl _) Ha, I.fpOk (Nat.le_add_right _ _) Hk, ?_, ?_, ?_⟩ ?_
  · exact I.kept (t' := s.toks) fun b o e => by
      refine Heap.get?_push_of_some _ (Heap.get?_push_of_some _ ?_)
      rw [s1.2 b (Nat.ne_of_lt (Heap.lt_size e))]
      exact Heap.get?_push_of_some _ e
  · have := Heap.get?_push_size (((s.heap.push (seqObj "list" vs.toArray 0)).update s.heap.objs.size (Obj.mapSeq fun _ => (#[] : Array Value))).push (seqObj "tuple" vs.toArray 0)) (o := seqObj "list" #[] 0) rfl
    rw [hk] at this
    exact this
  · exact Heap.get?_push_of_some _ (Heap.get?_push_of_some _ ho1)
  · rw [List.take_zero]
    exact EachIs.nil
  · intro H' s' out c I' sm fa na ro
    refine q H' s' ?_ sm fa.1
    have z : (byKeys xs kz).length ≤ sizeLine := by
      unfold byKeys
      rw [List.length_map, List.length_mergeSort, List.length_zip]
      omega
    exact I'.take (it := s.heap.objs.size) (t' := s'.toks) (fun b ob _ e => e) fa ⟨z, out, c, ro, na⟩

/-- sorted(xs, key=f), xs a list or a tuple: what it asks -/
def rSortKey (K : Frag) (f : Addr) (sp : Sp) : List V → List V → Hp → VK → Prop := fun vs zs H Q => ∃ (l : Addr) (xs : List V) (kz : List PyData), vs = [V.ref l] ∧ zs = [V.ref f] ∧ (SqL K H l xs ∨ SqT K H l xs) ∧
  kz.length = xs.length ∧ AllAlike kz ∧ Sortable kz ∧ (∀ d, d ∈ kz → d.depth ≤ 100) ∧
  (∀ (i : Nat) x d, xs[i]? = some x → kz[i]? = some d → ∀ H', Same H H' → sp [x] H' (fun v H'' => Same H' H'' ∧ Dp K H'' v d) E0) ∧
  ∀ (H' : Hp) (p : Addr), Same H H' → H' p = none → Q (.ref p) (upd H' p (.lst (byKeys xs kz)))

theorem cr_sortKey {X : Cx} {n : Nat} {f : Addr} {sp : Sp} (F : FnR X.prog X.w X.K X.mg X.base CX0 n f sp) (hr : Room (n + 2) X.A) : CallRK X (.builtin "sorted") [Str.ofString "key"] (rSortKey X.K f sp) := by
  intro pins s σ H vs zs us ws Q I r1 r2 h
  obtain ⟨l, xs, kz, rfl, rfl, hl, hlen, hal, hsk, hdep, turn, q⟩ := h
  obtain ⟨u, rfl, ru⟩ := r1.one
  obtain ⟨y, rfl, ry⟩ := r2.one
  cases ru
  cases ry
  show wpAny (model X.prog X.w) X.A (call (.builtin "sorted") [.ref l] [(Str.ofString "key", .ref f)]) (EP X pins σ Q) X.xe s
  have sb : Sub X n X.A.in1.in1 := Sub.in1 (Sub.in1 ⟨hr, rfl⟩)
  obtain ⟨T, o, its, k, hT, ho, hc, hd, r, z⟩ : ∃ (T : String) (o : Obj) (its : List Value) (k : Nat), (T = "list" ∨ T = "tuple") ∧ s.heap.get? l = some o ∧ o.cls = .type T ∧ o.data = .seq its.toArray k ∧ Vals xs its ∧ xs.length ≤ sizeLine := by
    rcases hl with hl | hl
    · obtain ⟨its, r, ⟨o, k, ho, hc, _, hd⟩, z⟩ := I.list hl
      exact ⟨"list", o, its, k, .inl rfl, ho, hc, hd, r, z⟩
    · obtain ⟨its, r, ⟨o, ho, hc, k, hd⟩, z⟩ := I.tuple hl
      exact ⟨"tuple", o, its, k, .inr rfl, ho, hc, hd, r, z⟩
  have hsz : its.length ≤ sizeLine := by rw [← r.length]; exact z
  refine call_function_entry_kw kind_sorted plain_sorted entry_sorted (ksk_s1 _ _) ?_
  unfold Builtin.«sorted»
  refine wpAny_bind (m := checkCount "sorted" 1 1 _) (wpAny_pure ?_)
  refine wpAny_bind (wpAny_collect_seq l hT ho hc hd (fun h' hk => ?_) (by rw [List.size_toArray]; exact hsz))
  have I1 : Inv X pins σ H { s with heap := h' } := I.kept (t' := s.toks) hk
  refine wpAny_bind (wpAny_newList ?_ hsz)
  refine wpAny_bind (wpAny_holding (wpAny_call_entry_kw slot_list_sort ⟨_, Heap.get?_push_size h' rfl, rfl⟩ entry_list_sort ?body (ksk_l1 _ _)))
  case body =>
    rw [ksk_t1]
    refine sort_tree F (s := { s with heap := h' }) sb I1 r hlen z hal hsk (fun d hd => ?_) turn fun H' s' J sm hn => ?_
    · have h1 := hr.un
      have h2 := hdep d hd
      show X.A.units + 1 + 1 + d.depth < cLine
      omega
    · exact ⟨.none, rfl, wpAny_pure ⟨_, rfl, ⟨V.ref h'.objs.size, _, J, rfl, q H' _ sm hn⟩⟩⟩
end Spk

set_option Elab.async false
set_option linter.all false
set_option maxRecDepth 100000
set_option maxHeartbeats 2000000
namespace Spk
open PySem PySem.Spec PyProof.Rows PySem.W L2

/-! ## operators of a class of the program's own -/
section
variable {X : Cx} {n : Nat} {C f : Addr} {sp : Sp}

theorem relR (a : Addr) : RelV (.ref a) (.ref a) := rfl
theorem relB (b : Bool) : RelV (.bl b) (.bool b) := rfl
theorem rel_back {w : V} {r : Value} {Q : Value → Shared → Prop} {s' : Shared} (h : RelV w r) (q : Q r s') : PySem.W.CmpBack Q r s' := by
  cases w with
  | non => cases h; exact q
  | bl b => cases h; exact q
  | int i => obtain ⟨t, rfl⟩ := h; exact q
  | str x => obtain ⟨t, rfl⟩ := h; exact q
  | byt x => obtain ⟨t, rfl⟩ := h; exact q
  | flt x => obtain ⟨t, rfl⟩ := h; exact q
  | ref a => cases h; exact q
  | ty n => cases h; exact q
theorem sub0 {k : Nat} (hr : Room k X.A) : Sub X k X.A := ⟨hr, rfl⟩

/-- an instance as the library's rules want it -/
theorem inst_of {pins : List (Addr × Obj)} {s : Shared} {σ : L2.St} {H : Hp} {a dx : Addr} {fs : List (Str × V)} (I : Inv X pins σ H s) (h : H a = some (.ins C dx fs)) :
    ∃ od, InstAt s.heap a (instObj C dx) C (some od) := by
  obtain ⟨mA, O, _⟩ := ins_get I.hok h
  obtain ⟨od, J, _⟩ := O.look
  exact ⟨od, J⟩

/-- a op b, both instances of C, by C's method -/
def rBin (C : Addr) (sp : Sp) : R2 := fun x y H Q => ∃ a b dx dy fs gs, x = .ref a ∧ y = .ref b ∧ H a = some (.ins C dx fs) ∧ H b = some (.ins C dy gs) ∧ sp [.ref a, .ref b] H Q E0
theorem op_own {op : Operator} (F : FnR X.prog X.w X.K X.mg X.base CX0 n f sp) (hr : Room n X.A) (hc : selfFirst X.K C = true) (hs : findIn X.K (.ref C) (PySem.dunder op.info.2) = some (some (.ref f))) (hf : isFn X.K (.ref f) = true) :
    OpR X (binaryOp op) (rBin C sp) := by
  intro pins s σ H x y v u Q I rx ry h
  obtain ⟨a, b, dx, dy, fs, gs, rfl, rfl, ha, hb, q⟩ := h
  cases rx
  cases ry
  obtain ⟨oa, ja⟩ := inst_of I ha
  obtain ⟨ob, jb⟩ := inst_of I hb
  obtain ⟨m, hF⟩ := I.fr
  refine binop_K hF I.ok.mod.kin ja jb.type hc hs hf ?_
  refine wpAny_mono (call_at F (sub0 hr) I (.cons (relR _) (.cons (relR _) .nil)) q) (fun r s' z => ?_) fun _ _ z => z
  obtain ⟨w, H', I', rw', q'⟩ := id z
  exact rel_back rw' z

/-- ~a -/
def rUno (C : Addr) (sp : Sp) : V → Hp → VK → Prop := fun x H Q => ∃ a dx fs, x = .ref a ∧ H a = some (.ins C dx fs) ∧ sp [.ref a] H Q E0
theorem un_own (F : FnR X.prog X.w X.K X.mg X.base CX0 n f sp) (hr : Room n X.A) (hs : findIn X.K (.ref C) "__invert__" = some (some (.ref f))) (hf : isFn X.K (.ref f) = true) :
    UnR X (unaryOp .Invert) (rUno C sp) := by
  intro pins s σ H x v Q I rx h
  obtain ⟨a, dx, fs, rfl, ha, q⟩ := h
  cases rx
  obtain ⟨oa, ja⟩ := inst_of I ha
  obtain ⟨m, hF⟩ := I.fr
  exact ksp_inv hF I.ok.mod.kin ja hs hf (call_at F (sub0 hr) I (.cons (relR _) .nil) q)

/-- x in a, x not in a -/
def rInO (C : Addr) (sp : Sp) (neg : Bool) : R2 := fun x y H Q => ∃ b dy gs, y = .ref b ∧ H b = some (.ins C dy gs) ∧ sp [.ref b, x] H (fun v H' => ∃ k, v = .bl k ∧ Q (.bl (if neg then !k else k)) H') E0
theorem op_inO (F : FnR X.prog X.w X.K X.mg X.base CX0 n f sp) (hr : Room n X.A) (hs : findIn X.K (.ref C) "__contains__" = some (some (.ref f))) (hf : isFn X.K (.ref f) = true) :
    OpR X (compareOp .In) (rInO C sp false) := by
  intro pins s σ H x y v u Q I rx ry h
  obtain ⟨b, dy, gs, rfl, hb, q⟩ := h
  cases ry
  obtain ⟨ob, jb⟩ := inst_of I hb
  obtain ⟨m, hF⟩ := I.fr
  refine in_K hF I.ok.mod.kin jb hs hf ?_
  refine wpAny_mono (call_at F (sub0 hr) I (.cons (relR _) (.cons rx .nil)) q) (fun r s' z => ?_) fun _ _ z => z
  obtain ⟨w, H', I', rw', k, rfl, q'⟩ := z
  cases rw'
  exact wpAny_truthy_bool ⟨_, H', I', relB _, q'⟩
theorem op_notInO (F : FnR X.prog X.w X.K X.mg X.base CX0 n f sp) (hr : Room n X.A) (hs : findIn X.K (.ref C) "__contains__" = some (some (.ref f))) (hf : isFn X.K (.ref f) = true) :
    OpR X (compareOp .NotIn) (rInO C sp true) := by
  intro pins s σ H x y v u Q I rx ry h
  obtain ⟨b, dy, gs, rfl, hb, q⟩ := h
  cases ry
  obtain ⟨ob, jb⟩ := inst_of I hb
  obtain ⟨m, hF⟩ := I.fr
  refine notIn_K hF I.ok.mod.kin jb hs hf ?_
  refine wpAny_mono (call_at F (sub0 hr) I (.cons (relR _) (.cons rx .nil)) q) (fun r s' z => ?_) fun _ _ z => z
  obtain ⟨w, H', I', rw', k, rfl, q'⟩ := z
  cases rw'
  exact wpAny_truthy_bool ⟨_, H', I', relB _, q'⟩

/-- a == y, a an instance of C with its own ==, y anything of a known type that is no subclass of C -/
def rEqO (K : Frag) (C : Addr) (sp : Sp) : R2 := fun x y H Q => ∃ a dx fs t, x = .ref a ∧ H a = some (.ins C dx fs) ∧ TyX K H y t ∧ notFirst K C t = true ∧ sp [.ref a, y] H (fun v H' => ∃ k, v = .bl k ∧ Q (.bl k) H') E0
theorem op_eqO (F : FnR X.prog X.w X.K X.mg X.base CX0 n f sp) (hr : Room n X.A) (hs : findIn X.K (.ref C) "__eq__" = some (some (.ref f))) (hf : isFn X.K (.ref f) = true) :
    OpR X (compareOp .Eq) (rEqO X.K C sp) := by
  intro pins s σ H x y v u Q I rx ry h
  obtain ⟨a, dx, fs, t, rfl, ha, ty, nf, q⟩ := h
  cases rx
  obtain ⟨oa, ja⟩ := inst_of I ha
  obtain ⟨m, hF⟩ := I.fr
  obtain ⟨P, kx, hp, _⟩ := kit_of I ry ty
  show wpAny (model X.prog X.w) X.A (richCompare .Eq (.ref a) u) (EP X pins σ Q) X.xe s
  refine cmp_K (op := .Eq) hr.units0 hF I.ok.mod.kin ja (kx.ty _ _ I.kIn hp) nf hs hf ?_
  refine wpAny_mono (call_at F (sub0 hr) I (.cons (relR _) (.cons ry .nil)) q) (fun r s' z => ?_) fun _ _ z => z
  obtain ⟨w, H', I', rw', k, rfl, q'⟩ := z
  cases rw'
  exact ⟨_, H', I', relB _, q'⟩

/-! ### a != y: object.__ne__ turns the own == round -/
theorem ifBoundB {M : Model} {A : Around} {E : Value → Shared → Prop} {s : Shared} {K : Frag} {x : Addr} {ox : Obj} {od : Option Obj} {name : Str} {id : String} {args : List Value} {Q : Option Value → Shared → Prop} (Xk : K.In s.heap) (I : InstAt s.heap x ox C od)
    (hs : findIn K (.ref C) name = some (some (.builtin id))) (hb : ∀ self, bindSpecial (.builtin id) self = pure (.builtin id, [self]))
    (h : wpAny M A (call (.builtin id) (.ref x :: args)) (fun v => Q (some v)) E s) : wpAny M A (callSpecialIfBound? (.ref x) name args) Q E s := by
  simp only [callSpecialIfBound?, bindSpecialIfBound?]
  refine wpAny_holding (wpAny_bind (wpAny_bind (wpAny_bind (I.type.here ((looks_findIn Xk hs).here ?_)))))
  simp only [hb]
  have fin : wpAny M A (call (.builtin id) ([.ref x] ++ args) >>= fun v => pure (some v)) Q E s :=
    wpAny_bind (wpAny_mono h (fun v s' z => wpAny_pure z) fun _ _ z => z)
  refine wpAny_bind (wpAny_askSetting (wpAny_ite ?_))
  split
  · exact wpAny_bind (wpAny_pure (wpAny_pure fin))
  · exact wpAny_tryCatch (wpAny_bind (wpAny_pure (wpAny_pure fin)))

theorem call_ne {pins : List (Addr × Obj)} {s : Shared} {σ : L2.St} {H : Hp} {a dx : Addr} {fs : List (Str × V)} {y : V} {u : Value} {Q : VK} {E : Value → Shared → Prop} {A : Around} (F : FnR X.prog X.w X.K X.mg X.base CX0 n f sp) (sb : Sub X (n + 1) A)
    (hs : findIn X.K (.ref C) "__eq__" = some (some (.ref f))) (hf : isFn X.K (.ref f) = true) (hob : subIn X.K (.ref C) (.type "object") = some true)
    (I : Inv X pins σ H s) (ha : H a = some (.ins C dx fs)) (ry : RelV y u) (q : sp [.ref a, y] H (fun v H' => ∃ k, v = .bl k ∧ Q (.bl (!k)) H') E0) :
    wpAny (model X.prog X.w) A (call (.builtin "object.__ne__") [.ref a, u]) (EP X pins σ fun v H' => (∃ k, v = .bl k) ∧ Q v H') E s := by
  obtain ⟨oa, ja⟩ := inst_of I ha
  have li : Looks (model X.prog X.w) s.heap (isInstance (.ref a) (.type "object")) true := ja.type.andThen (looks_subIn I.kIn hob)
  refine wpAny_call (codeAny_call_builtin PySem.F.cmp_object.ne.plain PySem.F.cmpEntry_ne (check_slot PySem.F.cmpKind_ne PySem.F.cmpSplit_ne li (PySem.F.cmpArgs_ne _ _) ?_))
  have body : wpAny (model X.prog X.w) A.in1 (Builtin.«object.__ne__» ⟨[.ref a, u], []⟩) (fun fin s' => ∃ v, fin = .done (.ret v) ∧ EP X pins σ (fun v H' => (∃ k, v = .bl k) ∧ Q v H') v s') (fun _ _ => False) s := by
    unfold Builtin.«object.__ne__»
    have hu : A.in1.units < cLine := sb.in1.room.units0
    refine wpAny_bind (wpAny_pure ?_)
    dsimp only
    refine wpAny_bind (wpAny_cRoomFor hu ?_)
    refine wpAny_bind (ifBound_K I.kIn ja hs hf (wpAny_mono (call_at F sb.in1 I (.cons (relR _) (.cons ry .nil)) q) (fun r s' z => ?_) fun _ _ z => z))
    obtain ⟨w, H', I', rw', k, rfl, q'⟩ := z
    cases rw'
    dsimp only
    refine wpAny_bind (wpAny_truthy_bool ?_)
    exact wpAny_pure ⟨_, rfl, _, H', I', relB _, ⟨_, rfl⟩, q'⟩
  refine wpAny_mono body (fun fin s' z => ?_) fun _ _ z => z.elim
  obtain ⟨v, rfl, z⟩ := z
  exact z
end
end Spk

set_option Elab.async false
set_option linter.all false
set_option maxRecDepth 100000
set_option maxHeartbeats 2000000
namespace Spk
open PySem PySem.Spec PyProof.Rows PySem.W L2
open AutoSeq1 (wpAny_loadPart')
open MeetsSeq MeetsSeq2 MeetsSeq3 SeqRoads2

/-! ## built-in == and != decline an instance of an own class -/
section
variable {prog : Program} {w : World} {x C dx : Addr}
theorem int_eq_dec (b : Int) (u : Tok) : Meets (Builtin.«int.__eq__» ⟨[.int b u, .ref x], []⟩) (fun _ R s => s.heap.get? x = some (instObj C dx) ∧ R (.ok (.ret .notImplemented)) s) :=
  .of_wp fun prog w A R s h => by obtain ⟨hp, g, d, tk, os⟩ := s; obtain ⟨hl, h⟩ := h; unfold instObj at hl; wp_walk using wpAny_loadPart' hl, wpAny_load hl; exact ⟨_, rfl, h⟩
theorem int_ne_dec (b : Int) (u : Tok) : Meets (Builtin.«int.__ne__» ⟨[.int b u, .ref x], []⟩) (fun _ R s => s.heap.get? x = some (instObj C dx) ∧ R (.ok (.ret .notImplemented)) s) :=
  .of_wp fun prog w A R s h => by obtain ⟨hp, g, d, tk, os⟩ := s; obtain ⟨hl, h⟩ := h; unfold instObj at hl; wp_walk using wpAny_loadPart' hl, wpAny_load hl; exact ⟨_, rfl, h⟩
theorem bool_eq_dec (b : Bool) : Meets (Builtin.«int.__eq__» ⟨[.bool b, .ref x], []⟩) (fun _ R s => s.heap.get? x = some (instObj C dx) ∧ R (.ok (.ret .notImplemented)) s) :=
  .of_wp fun prog w A R s h => by obtain ⟨hp, g, d, tk, os⟩ := s; obtain ⟨hl, h⟩ := h; unfold instObj at hl; wp_walk using wpAny_loadPart' hl, wpAny_load hl; exact ⟨_, rfl, h⟩
theorem bool_ne_dec (b : Bool) : Meets (Builtin.«int.__ne__» ⟨[.bool b, .ref x], []⟩) (fun _ R s => s.heap.get? x = some (instObj C dx) ∧ R (.ok (.ret .notImplemented)) s) :=
  .of_wp fun prog w A R s h => by obtain ⟨hp, g, d, tk, os⟩ := s; obtain ⟨hl, h⟩ := h; unfold instObj at hl; wp_walk using wpAny_loadPart' hl, wpAny_load hl; exact ⟨_, rfl, h⟩
theorem str_eq_dec (b : Str) (u : Tok) : Meets (Builtin.«str.__eq__» ⟨[.str b u, .ref x], []⟩) (fun _ R s => s.heap.get? x = some (instObj C dx) ∧ R (.ok (.ret .notImplemented)) s) :=
  .of_wp fun prog w A R s h => by obtain ⟨hp, g, d, tk, os⟩ := s; obtain ⟨hl, h⟩ := h; unfold instObj at hl; wp_walk using wpAny_loadPart' hl, wpAny_load hl; exact ⟨_, rfl, h⟩
theorem str_ne_dec (b : Str) (u : Tok) : Meets (Builtin.«str.__ne__» ⟨[.str b u, .ref x], []⟩) (fun _ R s => s.heap.get? x = some (instObj C dx) ∧ R (.ok (.ret .notImplemented)) s) :=
  .of_wp fun prog w A R s h => by obtain ⟨hp, g, d, tk, os⟩ := s; obtain ⟨hl, h⟩ := h; unfold instObj at hl; wp_walk using wpAny_loadPart' hl, wpAny_load hl; exact ⟨_, rfl, h⟩
end

/-- values of built-in kinds that an instance is compared with -/
inductive Odd (H : Hp) : V → String → Prop where
  | non : Odd H .non "NoneType"
  | bl (b : Bool) : Odd H (.bl b) "bool"
  | int (i : Int) : Odd H (.int i) "int"
  | str (x : Str) : Odd H (.str x) "str"
  | lst {a : Addr} {xs : List V} (h : H a = some (.lst xs)) : Odd H (.ref a) "list"
  | tup {a : Addr} {xs : List V} (h : H a = some (.tup xs)) : Odd H (.ref a) "tuple"
theorem Odd.ty {K : Frag} {H : Hp} {y : V} {T : String} (h : Odd H y T) : TyX K H y (.type T) := by
  cases h with
  | non => exact .base .non
  | bl b => exact .base (.bl b)
  | int i => exact .base (.int i)
  | str x => exact .base (.str x)
  | lst h => exact .base (.lst h)
  | tup h => exact .base (.tup h)

/-- what the text says of a class: it is over no built-in type -/
structure Bare (K : Frag) (C : Addr) : Prop where
  o : subIn K (.ref C) (.type "object") = some true
  n : subIn K (.ref C) (.type "NoneType") = some false
  b : subIn K (.ref C) (.type "bool") = some false
  i : subIn K (.ref C) (.type "int") = some false
  s : subIn K (.ref C) (.type "str") = some false
  l : subIn K (.ref C) (.type "list") = some false
  t : subIn K (.ref C) (.type "tuple") = some false
theorem Bare.odd {K : Frag} {C : Addr} {H : Hp} {y : V} {T : String} (B : Bare K C) (h : Odd H y T) : subIn K (.ref C) (.type T) = some false := by
  cases h with
  | non => exact B.n
  | bl b => exact B.b
  | int i => exact B.i
  | str x => exact B.s
  | lst h => exact B.l
  | tup h => exact B.t

section
variable {X : Cx} {pins : List (Addr × Obj)} {s : Shared} {σ : L2.St} {H : Hp} {a C dx : Addr} {fs : List (Str × V)} {y : V} {u : Value} {T : String} {A : Around} {E : Value → Shared → Prop} {Q : Option Value → Shared → Prop}
theorem list_dec {l : Addr} {T : String} {name : Str} {id : String} {B : Builtin} (I : Inv X pins σ H s) (ha : H a = some (.ins C dx fs)) (hno : subIn X.K (.ref C) (.type T) = some false) (slot : Slot T name id) (hT : s.TypeIs (.ref l) T)
    (entry : entryFor table id = some B) (args : argsOk id ⟨[.ref l, .ref a], []⟩)
    (hB : ∀ (A : Around) (P : PySem.Fin → Shared → Prop) (E : Value → Shared → Prop), Looks (model X.prog X.w) s.heap (isInstance (.ref a) (.type T)) false → P (.done (.ret .notImplemented)) s → wpAny (model X.prog X.w) A (B ⟨[.ref l, .ref a], []⟩) P E s)
    (q : Q none s) : wpAny (model X.prog X.w) A (tryCompare (.ref l) name (.ref a)) Q E s := by
  obtain ⟨oa, ja⟩ := inst_of I ha
  have li : Looks (model X.prog X.w) s.heap (isInstance (.ref a) (.type T)) false := ja.type.andThen (looks_subIn I.kIn hno)
  refine wpAny_tryCompare_declines hT slot ?_
  refine GQ.call_here slot hT entry args ?_
  exact hB _ _ _ li ⟨rfl, q⟩
theorem try_dec_eq (B : Bare X.K C) (I : Inv X pins σ H s) (ha : H a = some (.ins C dx fs)) (o : Odd H y T) (ry : RelV y u) (q : Q none s) : wpAny (model X.prog X.w) A (tryCompare u "__eq__" (.ref a)) Q E s := by
  obtain ⟨oa, ja⟩ := inst_of I ha
  cases o with
  | non =>
    cases ry
    exact wpAny_tryCompare_declines (T := "NoneType") rfl PySem.F.slot_NoneType_eq (call_gives PySem.F.slot_NoneType_eq rfl PySem.F.entry_NoneType_eq (PySem.F.args_NoneType_eq_2 _ _) (SeqAt.NoneType___eq___none_ref_0 a) (show _ ∧ _ from ⟨rfl, q⟩))
  | bl b =>
    cases ry
    exact wpAny_tryCompare_declines (T := "bool") rfl PySem.F.slot_bool_eq (call_meets PySem.F.slot_bool_eq rfl PySem.F.entry_int_eq (PySem.F.args_int_eq_2 _ _) (bool_eq_dec (C := C) (dx := dx) b) ⟨ja.at_, rfl, q⟩)
  | int i =>
    obtain ⟨t, rfl⟩ := ry
    exact wpAny_tryCompare_declines (T := "int") (typeIs_int s i t) PySem.F.slot_int_eq (call_meets PySem.F.slot_int_eq (typeIs_int s i t) PySem.F.entry_int_eq (PySem.F.args_int_eq_2 _ _) (int_eq_dec (C := C) (dx := dx) i t) ⟨ja.at_, rfl, q⟩)
  | str x =>
    obtain ⟨t, rfl⟩ := ry
    exact wpAny_tryCompare_declines (T := "str") (typeIs_str s x t) PySem.F.slot_str_eq (call_meets PySem.F.slot_str_eq (typeIs_str s x t) PySem.F.entry_str_eq (PySem.F.args_str_eq_2 _ _) (str_eq_dec (C := C) (dx := dx) x t) ⟨ja.at_, rfl, q⟩)
  | lst h =>
    cases ry
    obtain ⟨_, its, k, _, e⟩ := (show ObjOk X.prog X.w H s.heap _ (.lst _) from I.hok _ _ h)
    refine list_dec I ha B.l PySem.F.slot_list_eq ⟨_, e, rfl⟩ PySem.F.entry_list_eq (PySem.F.args_list_eq_2 _ _) (fun A P E li q => ?_) q
    obtain ⟨hp, g, d, tk, os⟩ := s
    wp_walk using li.here
    exact q
  | tup h =>
    cases ry
    obtain ⟨_, its, _, o, e, c⟩ := (show ObjOk X.prog X.w H s.heap _ (.tup _) from I.hok _ _ h)
    refine list_dec I ha B.t PySem.F.slot_tuple_eq ⟨_, e, c.1⟩ PySem.F.entry_tuple_eq (PySem.F.args_tuple_eq_2 _ _) (fun A P E li q => ?_) q
    obtain ⟨hp, g, d, tk, os⟩ := s
    wp_walk using li.here
    exact q
theorem try_dec_ne (B : Bare X.K C) (I : Inv X pins σ H s) (ha : H a = some (.ins C dx fs)) (o : Odd H y T) (ry : RelV y u) (q : Q none s) : wpAny (model X.prog X.w) A (tryCompare u "__ne__" (.ref a)) Q E s := by
  obtain ⟨oa, ja⟩ := inst_of I ha
  cases o with
  | non =>
    cases ry
    exact wpAny_tryCompare_declines (T := "NoneType") rfl PySem.F.slot_NoneType_ne (call_gives PySem.F.slot_NoneType_ne rfl PySem.F.entry_NoneType_ne (PySem.F.args_NoneType_ne_2 _ _) (SeqAt.NoneType___ne___none_ref_0 a) (show _ ∧ _ from ⟨rfl, q⟩))
  | bl b =>
    cases ry
    exact wpAny_tryCompare_declines (T := "bool") rfl PySem.F.slot_bool_ne (call_meets PySem.F.slot_bool_ne rfl PySem.F.entry_int_ne (PySem.F.args_int_ne_2 _ _) (bool_ne_dec (C := C) (dx := dx) b) ⟨ja.at_, rfl, q⟩)
  | int i =>
    obtain ⟨t, rfl⟩ := ry
    exact wpAny_tryCompare_declines (T := "int") (typeIs_int s i t) PySem.F.slot_int_ne (call_meets PySem.F.slot_int_ne (typeIs_int s i t) PySem.F.entry_int_ne (PySem.F.args_int_ne_2 _ _) (int_ne_dec (C := C) (dx := dx) i t) ⟨ja.at_, rfl, q⟩)
  | str x =>
    obtain ⟨t, rfl⟩ := ry
    exact wpAny_tryCompare_declines (T := "str") (typeIs_str s x t) PySem.F.slot_str_ne (call_meets PySem.F.slot_str_ne (typeIs_str s x t) PySem.F.entry_str_ne (PySem.F.args_str_ne_2 _ _) (str_ne_dec (C := C) (dx := dx) x t) ⟨ja.at_, rfl, q⟩)
  | lst h =>
    cases ry
    obtain ⟨_, its, k, _, e⟩ := (show ObjOk X.prog X.w H s.heap _ (.lst _) from I.hok _ _ h)
    refine list_dec I ha B.l PySem.F.slot_list_ne ⟨_, e, rfl⟩ PySem.F.entry_list_ne (PySem.F.args_list_ne_2 _ _) (fun A P E li q => ?_) q
    obtain ⟨hp, g, d, tk, os⟩ := s
    wp_walk using li.here
    exact q
  | tup h =>
    cases ry
    obtain ⟨_, its, _, o, e, c⟩ := (show ObjOk X.prog X.w H s.heap _ (.tup _) from I.hok _ _ h)
    refine list_dec I ha B.t PySem.F.slot_tuple_ne ⟨_, e, c.1⟩ PySem.F.entry_tuple_ne (PySem.F.args_tuple_ne_2 _ _) (fun A P E li q => ?_) q
    obtain ⟨hp, g, d, tk, os⟩ := s
    wp_walk using li.here
    exact q
end

/-! ### the comparison itself -/
section
variable {X : Cx} {n : Nat} {C f : Addr} {sp : Sp}
theorem rc_right {op : CmpOp} {M : Model} {A : Around} {E : Value → Shared → Prop} {s : Shared} {u b : Value} {T : String} {Q : Value → Shared → Prop} (h1 : oneThing? op u b = none) (hu : A.units < cLine)
    (lu : Looks M s.heap (typeOf u) (.type T)) (lb : Looks M s.heap (typeOf b) (.ref C)) (ls : Looks M s.heap (isSubtype (.ref C) (.type T)) false)
    (d : ∀ Q' : Option Value → Shared → Prop, Q' none s → wpAny M A (tryCompare u (cmpInfo op).2.1 b) Q' E s)
    (h : wpAny M A (tryCompare b (cmpInfo op).2.2 u) (fun r s' => ∃ v, r = some v ∧ Q v s') E s) : wpAny M A (richCompare op u b) Q E s := by
  unfold richCompare
  simp only [h1]
  refine wpAny_holding (wpAny_bind (wpAny_cRoomFor hu ?_))
  refine wpAny_bind (lu.here (wpAny_bind (lb.here ?_)))
  rw [if_pos (by simp)]
  refine wpAny_bind (ls.here ?_)
  simp only [Bool.false_eq_true, if_false]
  refine wpAny_bind (d _ ?_)
  simp only [Bool.not_false, if_true]
  refine wpAny_bind (wpAny_mono h (fun r s' z => ?_) fun _ _ z => z)
  obtain ⟨v, rfl, q⟩ := z
  exact wpAny_pure q
theorem rc_left {op : CmpOp} {M : Model} {A : Around} {E : Value → Shared → Prop} {s : Shared} {a b tb : Value} {Q : Value → Shared → Prop} (h1 : oneThing? op a b = none) (hu : A.units < cLine)
    (la : Looks M s.heap (typeOf a) (.ref C)) (lb : Looks M s.heap (typeOf b) tb) (ls : tb = .ref C ∨ Looks M s.heap (isSubtype tb (.ref C)) false)
    (h : wpAny M A (tryCompare a (cmpInfo op).2.1 b) (fun r s' => ∃ v, r = some v ∧ Q v s') E s) : wpAny M A (richCompare op a b) Q E s := by
  unfold richCompare
  simp only [h1]
  refine wpAny_holding (wpAny_bind (wpAny_cRoomFor hu ?_))
  refine wpAny_bind (la.here (wpAny_bind (lb.here ?_)))
  have go : ∀ k : Sem Bool, Looks M s.heap k false → wpAny M A (do
      let rightFirst ← k
      if rightFirst then
        if let some v ← tryCompare b (cmpInfo op).2.2 a then rule "compare.subclass-reflected-first"; return v
      if let some v ← tryCompare a (cmpInfo op).2.1 b then return v
      if !rightFirst then
        if let some v ← tryCompare b (cmpInfo op).2.2 a then return v
      match op with
      | .Eq => rule "compare.eq-identity"; return .bool (← isSame a b)
      | .NotEq => rule "compare.ne-identity"; return .bool (!(← isSame a b))
      | _ =>
        rule "compare.unsupported"
        raiseError "TypeError" s!"'{(cmpInfo op).1}' not supported between instances of '{← typeNameOf a}' and '{← typeNameOf b}'") Q E s := by
    intro k lk
    refine wpAny_bind (lk.here ?_)
    simp only [Bool.false_eq_true, if_false]
    refine wpAny_bind (wpAny_mono h (fun r s' z => ?_) fun _ _ z => z)
    obtain ⟨v, rfl, q⟩ := z
    exact wpAny_pure q
  rcases ls with rfl | ls
  · rw [if_neg (by simp)]
    exact go _ .now
  · by_cases e : (Value.ref C != tb) = true
    · rw [if_pos e]
      exact go _ ls
    · rw [if_neg e]
      exact go _ .now

theorem try_ne {pins : List (Addr × Obj)} {s : Shared} {σ : L2.St} {H : Hp} {a dx : Addr} {fs : List (Str × V)} {y : V} {u : Value} {Q : VK} {E : Value → Shared → Prop} (F : FnR X.prog X.w X.K X.mg X.base CX0 n f sp) (hr : Room (n + 1) X.A)
    (hs : findIn X.K (.ref C) "__eq__" = some (some (.ref f))) (hn : findIn X.K (.ref C) "__ne__" = some (some (.builtin "object.__ne__"))) (hf : isFn X.K (.ref f) = true) (B : Bare X.K C)
    (I : Inv X pins σ H s) (ha : H a = some (.ins C dx fs)) (ry : RelV y u) (q : sp [.ref a, y] H (fun v H' => ∃ k, v = .bl k ∧ Q (.bl (!k)) H') E0) :
    wpAny (model X.prog X.w) X.A (tryCompare (.ref a) "__ne__" u) (fun r s' => ∃ v, r = some v ∧ EP X pins σ Q v s') E s := by
  obtain ⟨oa, ja⟩ := inst_of I ha
  unfold tryCompare
  refine wpAny_bind (ifBoundB I.kIn ja hn PySem.F.cmp_object.ne.bind (wpAny_mono (call_ne F (sub0 hr) hs hf B.o I ha ry q) (fun v s' z => ?_) fun _ _ z => z))
  obtain ⟨w, H', I', rw', ⟨k, rfl⟩, q'⟩ := z
  cases rw'
  exact wpAny_pure ⟨_, rfl, _, H', I', relB _, q'⟩

/-- what the text says of a class with its own == and none of the other comparisons -/
structure OwnEq (K : Frag) (C f : Addr) : Prop where
  eq : findIn K (.ref C) "__eq__" = some (some (.ref f))
  ne : findIn K (.ref C) "__ne__" = some (some (.builtin "object.__ne__"))
  fn : isFn K (.ref f) = true
  bare : Bare K C

/-- a != y, a an instance of C -/
def rNeO (K : Frag) (C : Addr) (sp : Sp) : R2 := fun x y H Q => ∃ a dx fs t, x = .ref a ∧ H a = some (.ins C dx fs) ∧ TyX K H y t ∧ notFirst K C t = true ∧ sp [.ref a, y] H (fun v H' => ∃ k, v = .bl k ∧ Q (.bl (!k)) H') E0
theorem op_neO (F : FnR X.prog X.w X.K X.mg X.base CX0 n f sp) (hr : Room (n + 1) X.A) (O : OwnEq X.K C f) : OpR X (compareOp .NotEq) (rNeO X.K C sp) := by
  intro pins s σ H x y v u Q I rx ry h
  obtain ⟨a, dx, fs, t, rfl, ha, ty, nf, q⟩ := h
  cases rx
  obtain ⟨oa, ja⟩ := inst_of I ha
  obtain ⟨P, kx, hp, _⟩ := kit_of I ry ty
  show wpAny (model X.prog X.w) X.A (richCompare .NotEq (.ref a) u) (EP X pins σ Q) X.xe s
  refine rc_left (op := .NotEq) (C := C) (tb := t) (oneThing_ref ..) hr.units0 ja.type (kx.ty _ _ I.kIn hp) ?_ (try_ne F hr O.eq O.ne O.fn O.bare I ha ry q)
  rcases Bool.or_eq_true_iff.mp nf with e | e
  · exact .inl (beq_iff_eq.mp e)
  · exact .inr (looks_subIn I.kIn (beq_iff_eq.mp e))

/-- y == a, y != a, y of a built-in kind, a an instance of C -/
def rEqR (K : Frag) (C : Addr) (sp : Sp) : R2 := fun y x H Q => ∃ a dx fs T, x = .ref a ∧ H a = some (.ins C dx fs) ∧ Odd H y T ∧ sp [.ref a, y] H (fun v H' => ∃ k, v = .bl k ∧ Q (.bl k) H') E0
def rNeR (K : Frag) (C : Addr) (sp : Sp) : R2 := fun y x H Q => ∃ a dx fs T, x = .ref a ∧ H a = some (.ins C dx fs) ∧ Odd H y T ∧ sp [.ref a, y] H (fun v H' => ∃ k, v = .bl k ∧ Q (.bl (!k)) H') E0
theorem one_odd {op : CmpOp} {H : Hp} {y : V} {T : String} {u : Value} {a : Addr} (o : Odd H y T) (ry : RelV y u) : oneThing? op u (.ref a) = none := by
  cases o with
  | non => cases ry; rfl
  | bl b => cases ry; rfl
  | int i => obtain ⟨t, rfl⟩ := ry; rfl
  | str x => obtain ⟨t, rfl⟩ := ry; rfl
  | lst h => cases ry; exact oneThing_ref ..
  | tup h => cases ry; exact oneThing_ref ..
theorem op_eqR (F : FnR X.prog X.w X.K X.mg X.base CX0 n f sp) (hr : Room (n + 1) X.A) (O : OwnEq X.K C f) : OpR X (compareOp .Eq) (rEqR X.K C sp) := by
  intro pins s σ H y x u v Q I ry rx h
  obtain ⟨a, dx, fs, T, rfl, ha, o, q⟩ := h
  cases rx
  obtain ⟨oa, ja⟩ := inst_of I ha
  obtain ⟨P, kx, hp, _⟩ := kit_of I ry (o.ty (K := X.K))
  show wpAny (model X.prog X.w) X.A (richCompare .Eq u (.ref a)) (EP X pins σ Q) X.xe s
  refine rc_right (op := .Eq) (C := C) (T := T) (one_odd o ry) hr.units0 (kx.ty _ _ I.kIn hp) ja.type (looks_subIn I.kIn (O.bare.odd o)) (fun Q' z => try_dec_eq O.bare I ha o ry z) ?_
  unfold tryCompare
  refine wpAny_bind (ifBound_K I.kIn ja O.eq O.fn (wpAny_mono (call_at F (sub0 (hr.mono (Nat.le_succ _))) I (.cons (relR _) (.cons ry .nil)) q) (fun r s' z => ?_) fun _ _ z => z))
  obtain ⟨w, H', I', rw', k, rfl, q'⟩ := z
  cases rw'
  exact wpAny_pure ⟨_, rfl, _, H', I', relB _, q'⟩
theorem op_neR (F : FnR X.prog X.w X.K X.mg X.base CX0 n f sp) (hr : Room (n + 1) X.A) (O : OwnEq X.K C f) : OpR X (compareOp .NotEq) (rNeR X.K C sp) := by
  intro pins s σ H y x u v Q I ry rx h
  obtain ⟨a, dx, fs, T, rfl, ha, o, q⟩ := h
  cases rx
  obtain ⟨oa, ja⟩ := inst_of I ha
  obtain ⟨P, kx, hp, _⟩ := kit_of I ry (o.ty (K := X.K))
  show wpAny (model X.prog X.w) X.A (richCompare .NotEq u (.ref a)) (EP X pins σ Q) X.xe s
  exact rc_right (op := .NotEq) (C := C) (T := T) (one_odd o ry) hr.units0 (kx.ty _ _ I.kIn hp) ja.type (looks_subIn I.kIn (O.bare.odd o)) (fun Q' z => try_dec_ne O.bare I ha o ry z) (try_ne F hr O.eq O.ne O.fn O.bare I ha ry q)
end
end Spk

set_option Elab.async false
set_option linter.all false
set_option maxRecDepth 100000
set_option maxHeartbeats 2000000
namespace Spk
open PySem PySem.Spec PyProof.Rows PySem.W L2
open PySem.Sem (wp)

/-! ## bool(t) of a tuple, bool(a) and the truth of an instance by its own __bool__ -/
theorem bool_new_in {prog : Program} {w : World} (x : Value) : MeetsIn prog w (Builtin.«bool.__new__» ⟨[.type "bool", x], []⟩)
    (fun A R s => wpAny (model prog w) A.in1 (truthy x) (fun b s' => R (.ok (.ret (.bool b))) s') (fun e s' => R (.error e) s') s) := fun A R s h => by
  have f1 := F.conv_sub_bool
  obtain ⟨hp, g, d, tk, os⟩ := s
  repeat (any_goals (first | assumption | (with_reducible refine wpAny_bind (m := truthy x) (wpAny_mono h (fun b s' z => ?_) fun _ _ z => z)) | wp_step))
  all_goals first | exact ⟨_, rfl, z⟩ | exact z | skip

section
variable {X : Cx} {n : Nat} {C f : Addr} {sp : Sp}
theorem call_bool_by {A : Around} {E : Value → Shared → Prop} {s : Shared} {x : Value} {Q : Value → Shared → Prop} (h : wpAny (model X.prog X.w) A.in1.in1 (truthy x) (fun b s' => Q (.bool b) s') E s) :
    wpAny (model X.prog X.w) A (call (.type "bool") [x]) Q E s :=
  callType_newIn PySem.F.called_bool PySem.F.newNe_bool (PySem.F.typeCall_bool_1 x) (PySem.F.newCall_bool_1 x) (fun obj => PySem.F.args_object_init_2 obj x) PySem.F.entry_bool_new (bool_new_in x)
    (wpAny_mono h (fun b s' z => ⟨rfl, z⟩) fun _ _ z => z)

/-- bool(t), t a tuple -/
theorem call_boolT : CallR X (.type "bool") (fun xs H Q => ∃ (a : Addr) (zs : List V), xs = [.ref a] ∧ SqT X.K H a zs ∧ Q (.bl (!zs.isEmpty)) H) := by
  intro pins s σ H xs us Q I r h
  obtain ⟨a, zs, rfl, hq, q⟩ := h
  obtain rfl := Vals.ref1 r
  obtain ⟨its, rv, pl, hz⟩ := I.tuple hq
  have hl := line63
  have hlen := rv.length
  refine call_bool_by (truthy_tuple pl (by simp only [List.size_toArray]; omega) ?_)
  exact ⟨.bl (!zs.isEmpty), H, I.tok _, by rw [isEmpty_of rv]; rfl, q⟩

/-- the truth of an instance of C -/
def rTruO (C : Addr) (sp : Sp) : V → Hp → (Bool → Hp → Prop) → Prop := fun x H Q => ∃ a dx fs, x = .ref a ∧ H a = some (.ins C dx fs) ∧ sp [.ref a] H (fun v H' => ∃ k, v = .bl k ∧ Q k H') E0
theorem truthy_own {A : Around} {E : Value → Shared → Prop} {pins : List (Addr × Obj)} {s : Shared} {σ : L2.St} {H : Hp} {x : V} {u : Value} {Q : Bool → Hp → Prop} (F : FnR X.prog X.w X.K X.mg X.base CX0 n f sp) (sb : Sub X n A)
    (hs : findIn X.K (.ref C) "__bool__" = some (some (.ref f))) (hf : isFn X.K (.ref f) = true) (I : Inv X pins σ H s) (rx : RelV x u) (h : rTruO C sp x H Q) : wpAny (model X.prog X.w) A (truthy u) (TP X pins σ Q) E s := by
  obtain ⟨a, dx, fs, rfl, ha, q⟩ := h
  cases rx
  obtain ⟨oa, ja⟩ := inst_of I ha
  obtain ⟨m, hF⟩ := I.fr
  refine truthy_K hF I.ok.mod.kin ja hs hf (wpAny_mono (call_at F sb I (.cons (relR _) .nil) q) (fun r s' z => ?_) fun _ _ z => z)
  obtain ⟨w, H', I', rw', k, rfl, q'⟩ := z
  cases rw'
  exact ⟨H', I', q'⟩
/-- bool(a) -/
theorem call_boolO (F : FnR X.prog X.w X.K X.mg X.base CX0 n f sp) (hr : Room (n + 2) X.A) (hs : findIn X.K (.ref C) "__bool__" = some (some (.ref f))) (hf : isFn X.K (.ref f) = true) :
    CallR X (.type "bool") (fun xs H Q => ∃ x, xs = [x] ∧ rTruO C sp x H (fun k H' => Q (.bl k) H')) := by
  intro pins s σ H xs us Q I r h
  obtain ⟨x, rfl, h⟩ := h
  obtain ⟨u, rfl, ru⟩ := r.one
  refine call_bool_by (wpAny_mono (truthy_own F (Sub.in1 (Sub.in1 (sub0 hr))) hs hf I ru h) (fun b s' z => ?_) fun _ _ z => z)
  obtain ⟨H', I', q'⟩ := z
  exact ⟨_, H', I', relB _, q'⟩
end
end Spk

set_option linter.all false
namespace Spk
abbrev Stc := Option Int × Option Int
def has1 (s : Stc) (n : Int) : Bool := (match s.1 with | none => true | some l => decide (l ≤ n)) && (match s.2 with | none => true | some h => decide (n ≤ h))
def hasL (ss : List Stc) (n : Int) : Bool := ss.any fun s => has1 s n
def NE (s : Stc) : Prop := ∀ l h, s.1 = some l → s.2 = some h → l ≤ h
def Apart (a b : Stc) : Prop := ∃ h l, a.2 = some h ∧ b.1 = some l ∧ h + 1 < l
structure Canon (ps : List Stc) : Prop where
  ne : ∀ s, s ∈ ps → NE s
  ap : ps.Pairwise Apart
def touchB (hi lo : Option Int) : Bool := match lo, hi with
  | none, _ => true
  | _, none => true
  | some l, some h => decide (l ≤ h + 1)
def laterE (a b : Option Int) : Option Int := match a, b with
  | none, _ => none
  | _, none => none
  | some x, some y => some (if y > x then y else x)
def joinF (acc : List Stc) (s : Stc) : List Stc := match acc.getLast? with
  | none => acc ++ [s]
  | some p => if touchB p.2 s.1 = true then acc.dropLast ++ [(p.1, laterE p.2 s.2)] else acc ++ [s]
def lowLe (a b : Option Int) : Prop := match a, b with
  | none, _ => True
  | some _, none => False
  | some i, some j => i ≤ j
theorem has1_of {s : Stc} {n : Int} (h1 : ∀ k, s.1 = some k → k ≤ n) (h2 : ∀ k, s.2 = some k → n ≤ k) : has1 s n = true := by
  obtain ⟨l, r⟩ := s
  cases l <;> cases r <;> simp_all [has1]
theorem hasL_append (a b : List Stc) (n : Int) : hasL (a ++ b) n = (hasL a n || hasL b n) := by simp [hasL, List.any_append]
theorem hasL_one (s : Stc) (n : Int) : hasL [s] n = has1 s n := by simp [hasL]
theorem hasL_cons (s : Stc) (b : List Stc) (n : Int) : hasL (s :: b) n = (has1 s n || hasL b n) := by simp [hasL]
theorem hasL_nil (n : Int) : hasL [] n = false := rfl

theorem join_has (p s : Stc) (n : Int) (hp : NE p) (hs : NE s) (hl : lowLe p.1 s.1) (ht : touchB p.2 s.1 = true) : has1 (p.1, laterE p.2 s.2) n = (has1 p n || has1 s n) := by
  obtain ⟨pl, ph⟩ := p
  obtain ⟨sl, sh⟩ := s
  rw [Bool.eq_iff_iff]
  cases pl <;> cases ph <;> cases sl <;> cases sh <;> simp_all [has1, laterE, touchB, lowLe, NE]
  all_goals (try split)
  all_goals (try omega)
theorem join_ne (p s : Stc) (hp : NE p) : NE (p.1, laterE p.2 s.2) := by
  obtain ⟨pl, ph⟩ := p
  obtain ⟨sl, sh⟩ := s
  intro l h h1 h2
  cases ph <;> cases sh <;> simp_all [laterE]
  have := hp l _ rfl rfl
  split at h2 <;> omega
theorem notouch {p s : Stc} (h : touchB p.2 s.1 = false) : Apart p s := by
  obtain ⟨pl, ph⟩ := p
  obtain ⟨sl, sh⟩ := s
  cases ph <;> cases sl <;> simp_all [touchB, Apart]
theorem apart_trans {a p s : Stc} (h1 : Apart a p) (hp : NE p) (h2 : Apart p s) : Apart a s := by
  obtain ⟨h, l, e1, e2, q⟩ := h1
  obtain ⟨h', l', e3, e4, q'⟩ := h2
  have := hp l h' e2 e3
  exact ⟨h, l', e1, e4, by omega⟩
theorem canon_snoc {acc : List Stc} {p s : Stc} (h : Canon (acc ++ [p])) (hs : NE s) (ha : Apart p s) : Canon (acc ++ [p] ++ [s]) := by
  refine ⟨fun x hx => ?_, ?_⟩
  · rcases List.mem_append.mp hx with hx | hx
    · exact h.ne x hx
    · rw [List.mem_singleton.mp hx]; exact hs
  · refine List.pairwise_append.mpr ⟨h.ap, List.pairwise_singleton .., fun a ha' b hb => ?_⟩
    rw [List.mem_singleton.mp hb]
    rcases List.mem_append.mp ha' with q | q
    · exact apart_trans ((List.pairwise_append.mp h.ap).2.2 a q p (by simp)) (h.ne p (by simp)) ha
    · rw [List.mem_singleton.mp q]; exact ha
theorem canon_last {acc : List Stc} {p s : Stc} (h : Canon (acc ++ [p])) : Canon (acc ++ [(p.1, laterE p.2 s.2)]) := by
  refine ⟨fun x hx => ?_, ?_⟩
  · rcases List.mem_append.mp hx with hx | hx
    · exact h.ne x (List.mem_append_left _ hx)
    · rw [List.mem_singleton.mp hx]; exact join_ne p s (h.ne p (by simp))
  · refine List.pairwise_append.mpr ⟨(List.pairwise_append.mp h.ap).1, List.pairwise_singleton .., fun a ha b hb => ?_⟩
    rw [List.mem_singleton.mp hb]
    exact (List.pairwise_append.mp h.ap).2.2 a ha p (by simp)
/-- one step of the joining -/
theorem join_step {acc pre : List Stc} {s : Stc} (hc : Canon acc) (hm : ∀ n, hasL acc n = hasL pre n) (hl : ∀ a, a ∈ acc → lowLe a.1 s.1) (hs : NE s) :
    Canon (joinF acc s) ∧ (∀ n, hasL (joinF acc s) n = hasL (pre ++ [s]) n) ∧ ∀ a, a ∈ joinF acc s → a.1 = s.1 ∨ ∃ b, b ∈ acc ∧ a.1 = b.1 := by
  rcases List.eq_nil_or_concat acc with rfl | ⟨ac, p, rfl⟩
  · refine ⟨⟨fun x hx => ?_, ?_⟩, fun n => ?_, fun a ha => ?_⟩
    · have : x = s := by simpa [joinF] using hx
      rw [this]; exact hs
    · simp [joinF]
    · rw [hasL_append, ← hm n]; simp [joinF, hasL]
    · left
      have : a = s := by simpa [joinF] using ha
      rw [this]
  · simp only [List.concat_eq_append] at *
    have hg : (ac ++ [p]).getLast? = some p := by simp
    unfold joinF
    rw [hg]
    dsimp only
    by_cases ht : touchB p.2 s.1 = true
    · rw [if_pos ht, List.dropLast_concat]
      refine ⟨canon_last (s := s) hc, fun n => ?_, fun a ha => ?_⟩
      · have h1 := hm n
        rw [hasL_append, hasL_one] at h1
        rw [hasL_append, hasL_one, hasL_append, hasL_one, join_has p s n (hc.ne p (by simp)) hs (hl p (by simp)) ht, ← h1, Bool.or_assoc]
      · right
        rcases List.mem_append.mp ha with ha | ha
        · exact ⟨a, by simp [ha], rfl⟩
        · rw [List.mem_singleton.mp ha]; exact ⟨p, by simp, rfl⟩
    · rw [if_neg ht]
      have ht' : touchB p.2 s.1 = false := by simpa using ht
      refine ⟨canon_snoc hc hs (notouch ht'), fun n => ?_, fun a ha => ?_⟩
      · rw [hasL_append (ac ++ [p]) [s], hasL_append pre [s], hm n]
      · rcases List.mem_append.mp ha with ha | ha
        · right; exact ⟨a, ha, rfl⟩
        · left; rw [List.mem_singleton.mp ha]
theorem lowLe_trans {a b c : Option Int} (h1 : lowLe a b) (h2 : lowLe b c) : lowLe a c := by
  cases a <;> cases b <;> cases c <;> simp_all [lowLe]
  omega
/-- the invariant of the loop -/
structure Joins (acc pre rest : List Stc) : Prop where
  canon : Canon acc
  has : ∀ n, hasL acc n = hasL pre n
  low : ∀ a, a ∈ acc → ∀ s, s ∈ rest → lowLe a.1 s.1
theorem joins_step {acc pre rest : List Stc} {s : Stc} (h : Joins acc pre (s :: rest)) (hs : NE s) (hw : (s :: rest).Pairwise fun a b => lowLe a.1 b.1) : Joins (joinF acc s) (pre ++ [s]) rest := by
  obtain ⟨c, m, l⟩ := join_step h.canon h.has (fun a ha => h.low a ha s (by simp)) hs
  refine ⟨c, m, fun a ha t ht => ?_⟩
  have hst : lowLe s.1 t.1 := (List.pairwise_cons.mp hw).1 t ht
  rcases l a ha with e | ⟨b, hb, e⟩
  · rw [e]; exact hst
  · rw [e]; exact h.low b hb t (by simp [ht])

/-! ### one set, one list of parts -/
theorem canon_tail {s : Stc} {ps : List Stc} (h : Canon (s :: ps)) : Canon ps := ⟨fun x hx => h.ne x (by simp [hx]), (List.pairwise_cons.mp h.ap).2⟩
/-- nothing of the later parts lies at or ahead of the number behind the first one's end -/
theorem later_no {s : Stc} {ps : List Stc} (h : Canon (s :: ps)) {n e : Int} (he : s.2 = some e) (hn : n ≤ e + 1) : hasL ps n = false := by
  unfold hasL
  rw [List.any_eq_false]
  intro t ht
  obtain ⟨h', l, e1, e2, q⟩ := (List.pairwise_cons.mp h.ap).1 t ht
  rw [he] at e1
  cases e1
  simp only [has1, e2, Bool.and_eq_true, decide_eq_true_eq, not_and]
  intro h1
  omega
theorem no_later {s : Stc} {ps : List Stc} (h : Canon (s :: ps)) (he : s.2 = none) : ps = [] := by
  cases ps with
  | nil => rfl
  | cons t ps =>
    obtain ⟨h', l, e1, _⟩ := (List.pairwise_cons.mp h.ap).1 t (by simp)
    rw [he] at e1
    cases e1
/-- ahead of the first part's low end there is nothing -/
theorem ahead_no {s : Stc} {ps : List Stc} (h : Canon (s :: ps)) {n l : Int} (hl : s.1 = some l) (hn : n < l) : hasL (s :: ps) n = false := by
  rw [hasL_cons]
  have h1 : has1 s n = false := by
    simp only [has1, hl, Bool.and_eq_false_iff, decide_eq_false_iff_not]
    left
    omega
  rw [h1, Bool.false_or]
  cases e : s.2 with
  | none => rw [no_later h e]; rfl
  | some x =>
    have := h.ne s (by simp) l x hl e
    exact later_no h e (by omega)
theorem has_low {s : Stc} (h : NE s) {l : Int} (hl : s.1 = some l) : has1 s l = true := by
  cases e : s.2 with
  | none => simp [has1, hl, e]
  | some x =>
    have := h l x hl e
    simp [has1, hl, e, this]
theorem has_some {s : Stc} (h : NE s) (m : Int) : ∃ n, n ≤ m ∧ (s.1 = none → has1 s n = true) := by
  cases e : s.2 with
  | none => exact ⟨m, Int.le_refl _, fun h1 => by simp [has1, h1, e]⟩
  | some x =>
    by_cases q : m ≤ x
    · exact ⟨m, Int.le_refl _, fun h1 => by simp [has1, h1, e, q]⟩
    · exact ⟨x, by omega, fun h1 => by simp [has1, h1, e]⟩
theorem ne_has {s : Stc} (h : NE s) : ∃ n, has1 s n = true := by
  cases e : s.1 with
  | none =>
    obtain ⟨n, _, q⟩ := has_some h 0
    exact ⟨n, q e⟩
  | some l => exact ⟨l, has_low h e⟩
theorem low_same {s t : Stc} {ps qs : List Stc} (h : Canon (s :: ps)) (h' : Canon (t :: qs)) (e : ∀ n, hasL (s :: ps) n = hasL (t :: qs) n) : lowLe t.1 s.1 := by
  cases hs : s.1 with
  | none =>
    cases ht : t.1 with
    | none => trivial
    | some l =>
      obtain ⟨n, hn, q⟩ := has_some (h.ne s (by simp)) (l - 1)
      have h1 := e n
      rw [ahead_no h' ht (by omega), hasL_cons, q hs] at h1
      simp at h1
  | some a =>
    cases ht : t.1 with
    | none => trivial
    | some b =>
      by_cases q : b ≤ a
      · exact q
      · have h1 := e a
        rw [ahead_no h' ht (by omega), hasL_cons, has_low (h.ne s (by simp)) hs] at h1
        simp at h1
theorem lowLe_antisymm {a b : Option Int} (h1 : lowLe a b) (h2 : lowLe b a) : a = b := by
  cases a <;> cases b <;> simp_all [lowLe]
  omega
/-- behind the end of the first one there is a number that is not in it -/
theorem high_same {s t : Stc} {ps qs : List Stc} (h : Canon (s :: ps)) (h' : Canon (t :: qs)) (e : ∀ n, hasL (s :: ps) n = hasL (t :: qs) n) (hl : s.1 = t.1) {x : Int} (hx : s.2 = some x) : ∃ y, t.2 = some y ∧ y ≤ x := by
  have h1 := e (x + 1)
  have n1 : has1 s (x + 1) = false := by
    simp only [has1, hx, Bool.and_eq_false_iff, decide_eq_false_iff_not]
    right
    omega
  rw [hasL_cons, n1, later_no h hx (Int.le_refl _), hasL_cons] at h1
  have h2 : has1 t (x + 1) = false := by
    cases q : has1 t (x + 1) with
    | false => rfl
    | true => rw [q] at h1; simp at h1
  have low : ∀ l, t.1 = some l → l ≤ x + 1 := fun l hl' => by
    rw [← hl] at hl'
    have := h.ne s (by simp) l x hl' hx
    omega
  cases ht : t.2 with
  | none =>
    exfalso
    cases hl' : t.1 with
    | none => simp [has1, hl', ht] at h2
    | some l =>
      have := low l hl'
      simp [has1, hl', ht, this] at h2
  | some y =>
    refine ⟨y, rfl, ?_⟩
    by_cases q : y ≤ x
    · exact q
    · exfalso
      have q' : x + 1 ≤ y := by omega
      cases hl' : t.1 with
      | none => simp [has1, hl', ht, q'] at h2
      | some l =>
        have := low l hl'
        simp [has1, hl', ht, this, q'] at h2
theorem canon_unique : ∀ {ps qs : List Stc}, Canon ps → Canon qs → (∀ n, hasL ps n = hasL qs n) → ps = qs
  | [], [], _, _, _ => rfl
  | [], t :: qs, _, h', e => by
    obtain ⟨n, q⟩ := ne_has (h'.ne t (by simp))
    have := e n
    rw [hasL_cons, q] at this
    simp [hasL_nil] at this
  | s :: ps, [], h, _, e => by
    obtain ⟨n, q⟩ := ne_has (h.ne s (by simp))
    have := e n
    rw [hasL_cons, q] at this
    simp [hasL_nil] at this
  | s :: ps, t :: qs, h, h', e => by
    have hl : s.1 = t.1 := lowLe_antisymm (low_same h' h fun n => (e n).symm) (low_same h h' e)
    have hh : s.2 = t.2 := by
      cases hs : s.2 with
      | none =>
        cases ht : t.2 with
        | none => rfl
        | some y =>
          obtain ⟨z, q, _⟩ := high_same h' h (fun n => (e n).symm) hl.symm ht
          rw [hs] at q; cases q
      | some x =>
        obtain ⟨y, hy, q⟩ := high_same h h' e hl hs
        obtain ⟨z, hz, q'⟩ := high_same h' h (fun n => (e n).symm) hl.symm hy
        rw [hs] at hz
        cases hz
        rw [hy]
        congr 1
        omega
    have est : s = t := Prod.ext hl hh
    subst est
    refine congrArg _ (canon_unique (canon_tail h) (canon_tail h') fun n => ?_)
    cases hs : s.2 with
    | none => rw [no_later h hs, no_later h' hs]
    | some x =>
      by_cases q : n ≤ x + 1
      · rw [later_no h hs q, later_no h' hs q]
      · have n1 : has1 s n = false := by
          simp only [has1, hs, Bool.and_eq_false_iff, decide_eq_false_iff_not]
          right
          omega
        have := e n
        rwa [hasL_cons, hasL_cons, n1, Bool.false_or, Bool.false_or] at this

/-! ### the halving search -/
theorem search_low {ps : List Stc} (h : Canon ps) {m : Nat} {s : Stc} (hm : ps[m]? = some s) {l n : Int} (hl : s.1 = some l) (hn : n < l) {j : Nat} {t : Stc} (hj : m ≤ j) (ht : ps[j]? = some t) : has1 t n = false := by
  have hs := h.ne s (List.mem_of_getElem? hm)
  by_cases e : m = j
  · subst e
    rw [hm] at ht
    cases ht
    simp only [has1, hl, Bool.and_eq_false_iff, decide_eq_false_iff_not]
    left
    omega
  · obtain ⟨h1, h2, h3⟩ := List.getElem?_eq_some_iff.mp hm |>.elim fun a b => (⟨a, b, trivial⟩ : ∃ (a : m < ps.length) (_ : ps[m] = s), True)
    obtain ⟨g1, g2⟩ := List.getElem?_eq_some_iff.mp ht
    have := List.pairwise_iff_getElem.mp h.ap m j h1 g1 (by omega)
    rw [h2, g2] at this
    obtain ⟨x, y, e1, e2, q⟩ := this
    have := hs l x hl e1
    simp only [has1, e2, Bool.and_eq_false_iff, decide_eq_false_iff_not]
    left
    omega
theorem search_high {ps : List Stc} (h : Canon ps) {m : Nat} {s : Stc} (hm : ps[m]? = some s) {l n : Int} (hl : s.2 = some l) (hn : l < n) {j : Nat} {t : Stc} (hj : j ≤ m) (ht : ps[j]? = some t) : has1 t n = false := by
  have hs := h.ne s (List.mem_of_getElem? hm)
  by_cases e : j = m
  · subst e
    rw [hm] at ht
    cases ht
    simp only [has1, hl, Bool.and_eq_false_iff, decide_eq_false_iff_not]
    right
    omega
  · obtain ⟨h1, h2⟩ := List.getElem?_eq_some_iff.mp hm
    obtain ⟨g1, g2⟩ := List.getElem?_eq_some_iff.mp ht
    have := List.pairwise_iff_getElem.mp h.ap j m g1 h1 (by omega)
    rw [h2, g2] at this
    obtain ⟨x, y, e1, e2, q⟩ := this
    have := hs y l e2 hl
    simp only [has1, e1, Bool.and_eq_false_iff, decide_eq_false_iff_not]
    right
    omega

/-! ### the points at which two sets are looked at -/
def endsOf (s : Stc) : List Int := (match s.1 with | none => [] | some l => [l - 1, l, l + 1]) ++ (match s.2 with | none => [] | some h => [h - 1, h, h + 1])
def points (ss : List Stc) : List Int := [0, 1, -1, 10000000000000, -10000000000000] ++ ss.flatMap endsOf
/-- the cuts: the first numbers behind which something changes -/
def cutsOf (s : Stc) : List Int := (match s.1 with | none => [] | some l => [l]) ++ (match s.2 with | none => [] | some h => [h + 1])
def cuts (ss : List Stc) : List Int := ss.flatMap cutsOf
theorem cut_point {ss : List Stc} {c : Int} (h : c ∈ cuts ss) : c ∈ points ss ∧ c - 1 ∈ points ss := by
  obtain ⟨s, hs, hc⟩ := List.mem_flatMap.mp h
  have key : c ∈ endsOf s ∧ c - 1 ∈ endsOf s := by
    obtain ⟨l, r⟩ := s
    cases l <;> cases r <;> simp_all [cutsOf, endsOf] <;> omega
  exact ⟨List.mem_append_right _ (List.mem_flatMap.mpr ⟨s, hs, key.1⟩), List.mem_append_right _ (List.mem_flatMap.mpr ⟨s, hs, key.2⟩)⟩
theorem has_by_cuts {s : Stc} {n m : Int} (h : ∀ c, c ∈ cutsOf s → (c ≤ n ↔ c ≤ m)) : has1 s n = has1 s m := by
  obtain ⟨l, r⟩ := s
  rw [Bool.eq_iff_iff]
  cases l <;> cases r <;> simp_all [cutsOf, has1] <;> omega
theorem hasL_by_cuts {ss : List Stc} {n m : Int} (h : ∀ c, c ∈ cuts ss → (c ≤ n ↔ c ≤ m)) : hasL ss n = hasL ss m := by
  induction ss with
  | nil => rfl
  | cons s ss ih =>
    rw [hasL_cons, hasL_cons, has_by_cuts (s := s) fun c hc => h c (List.mem_flatMap.mpr ⟨s, by simp, hc⟩), ih fun c hc => h c ?_]
    obtain ⟨t, ht, hc⟩ := List.mem_flatMap.mp hc
    exact List.mem_flatMap.mpr ⟨t, by simp [ht], hc⟩
theorem greatest {l : List Int} {n : Int} (h : ∃ c, c ∈ l ∧ c ≤ n) : ∃ c, c ∈ l ∧ c ≤ n ∧ ∀ d, d ∈ l → d ≤ n → d ≤ c := by
  induction l with
  | nil => obtain ⟨c, hc, _⟩ := h; simp at hc
  | cons a l ih =>
    by_cases q : ∃ c, c ∈ l ∧ c ≤ n
    · obtain ⟨c, hc, hn, m⟩ := ih q
      by_cases qa : a ≤ n ∧ c ≤ a
      · refine ⟨a, by simp, qa.1, fun d hd hdn => ?_⟩
        rcases List.mem_cons.mp hd with rfl | hd
        · exact Int.le_refl _
        · have := m d hd hdn; omega
      · refine ⟨c, by simp [hc], hn, fun d hd hdn => ?_⟩
        rcases List.mem_cons.mp hd with rfl | hd
        · omega
        · exact m d hd hdn
    · obtain ⟨c, hc, hn⟩ := h
      rcases List.mem_cons.mp hc with rfl | hc
      · refine ⟨c, by simp, hn, fun d hd hdn => ?_⟩
        rcases List.mem_cons.mp hd with rfl | hd
        · exact Int.le_refl _
        · exact absurd ⟨d, hd, hdn⟩ q
      · exact absurd ⟨c, hc, hn⟩ q
theorem least {l : List Int} (h : l ≠ []) : ∃ c, c ∈ l ∧ ∀ d, d ∈ l → c ≤ d := by
  induction l with
  | nil => exact absurd rfl h
  | cons a l ih =>
    by_cases q : l = []
    · subst q
      exact ⟨a, by simp, fun d hd => by rw [List.mem_singleton.mp hd]; exact Int.le_refl _⟩
    · obtain ⟨c, hc, m⟩ := ih q
      by_cases qa : a ≤ c
      · refine ⟨a, by simp, fun d hd => ?_⟩
        rcases List.mem_cons.mp hd with rfl | hd
        · exact Int.le_refl _
        · have := m d hd; omega
      · refine ⟨c, by simp [hc], fun d hd => ?_⟩
        rcases List.mem_cons.mp hd with rfl | hd
        · omega
        · exact m d hd
/-- each number has a point that no stretch tells from it -/
theorem point_of (ss : List Stc) (n : Int) : ∃ m, m ∈ points ss ∧ ∀ c, c ∈ cuts ss → (c ≤ n ↔ c ≤ m) := by
  by_cases q : ∃ c, c ∈ cuts ss ∧ c ≤ n
  · obtain ⟨c, hc, hn, m⟩ := greatest q
    refine ⟨c, (cut_point hc).1, fun d hd => ⟨fun h => m d hd h, fun h => by omega⟩⟩
  · by_cases q0 : cuts ss = []
    · refine ⟨0, by simp [points], fun c hc => ?_⟩
      rw [q0] at hc
      simp at hc
    · obtain ⟨c, hc, m⟩ := least q0
      refine ⟨c - 1, (cut_point hc).2, fun d hd => ⟨fun h => absurd ⟨d, hd, h⟩ q, fun h => ?_⟩⟩
      have := m d hd
      omega
theorem cuts_append (a b : List Stc) : cuts (a ++ b) = cuts a ++ cuts b := by simp [cuts, List.flatMap_append]
/-- sets that agree at the points of both are the same -/
theorem agree_all {a b : List Stc} (h : ∀ m, m ∈ points (a ++ b) → hasL a m = hasL b m) (n : Int) : hasL a n = hasL b n := by
  obtain ⟨m, hm, hc⟩ := point_of (a ++ b) n
  rw [cuts_append] at hc
  rw [hasL_by_cuts (ss := a) fun c q => hc c (List.mem_append_left _ q), hasL_by_cuts (ss := b) fun c q => hc c (List.mem_append_right _ q)]
  exact h m hm
end Spk

set_option linter.all false
namespace Spk
/-! ### the gaps of a set's parts -/
def fromB (low : Option Int) (n : Int) : Bool := match low with
  | none => true
  | some c => decide (c ≤ n)
def gapAt (low first : Option Int) : List Stc := match first with
  | none => []
  | some a => [(low, some (a - 1))]
def gapsF : Option Int → List Stc → List Stc
  | low, [] => [(low, none)]
  | low, (first, last) :: ps => gapAt low first ++ match last with
    | none => []
    | some b => gapsF (some (b + 1)) ps
/-- all parts begin behind low -/
def Behind (low : Option Int) (ps : List Stc) : Prop := ∀ c, low = some c → ∀ s, s ∈ ps → ∃ a, s.1 = some a ∧ c < a
theorem behind_has {c : Int} {ps : List Stc} (h : Behind (some c) ps) {n : Int} (hn : hasL ps n = true) : c < n := by
  unfold hasL at hn
  obtain ⟨s, hs, h1⟩ := List.any_eq_true.mp hn
  obtain ⟨a, e, ca⟩ := h c rfl s hs
  obtain ⟨x, y⟩ := s
  cases e
  cases y <;> simp [has1] at h1 <;> omega
theorem Canon.tail {s : Stc} {ps : List Stc} (h : Canon (s :: ps)) : Canon ps := ⟨fun x hx => h.ne x (by simp [hx]), (List.pairwise_cons.mp h.ap).2⟩
structure GapsOk (low : Option Int) (ps : List Stc) : Prop where
  has : ∀ n, hasL (gapsF low ps) n = (fromB low n && !hasL ps n)
  canon : Canon (gapsF low ps)
  at_ : ∀ c, low = some c → ∀ g, g ∈ gapsF low ps → ∃ a, g.1 = some a ∧ c ≤ a
  len : (gapsF low ps).length ≤ ps.length + 1
theorem canon_single {s : Stc} (h : NE s) : Canon [s] := ⟨fun x hx => by rw [List.mem_singleton.mp hx]; exact h, List.pairwise_singleton ..⟩
theorem gaps_ok : ∀ (ps : List Stc) (low : Option Int), Canon ps → Behind low ps → GapsOk low ps
  | [], low, _, _ => by
    refine ⟨fun n => ?_, canon_single fun l h e1 e2 => ?_, fun c e g hg => ?_, Nat.le_refl _⟩
    · cases low <;> simp [gapsF, hasL, has1, fromB]
    · cases e2
    · rw [gapsF, List.mem_singleton] at hg
      subst hg e
      exact ⟨c, rfl, Int.le_refl _⟩
  | (first, none) :: ps, low, hc, hb => by
    have e : ps = [] := by
      cases ps with
      | nil => rfl
      | cons t ps =>
        obtain ⟨x, y, e1, _⟩ := (List.pairwise_cons.mp hc.ap).1 t (by simp)
        cases e1
    subst e
    cases first with
    | none =>
      refine ⟨fun n => ?_, ⟨fun s hs => ?_, .nil⟩, fun c e g hg => ?_, by simp [gapsF, gapAt]⟩
      · simp [gapsF, gapAt, hasL, has1]
      · simp [gapsF, gapAt] at hs
      · simp [gapsF, gapAt] at hg
    | some a =>
      have hlow : ∀ c, low = some c → c < a := fun c e => by
        obtain ⟨a', e', h⟩ := hb c e (some a, none) (by simp)
        cases e'
        exact h
      refine ⟨fun n => ?_, canon_single fun l h e1 e2 => ?_, fun c e g hg => ?_, by simp [gapsF, gapAt]⟩
      · rw [Bool.eq_iff_iff]
        cases low <;> simp [gapsF, gapAt, hasL, has1, fromB] <;> omega
      · cases e2
        have := hlow l e1
        omega
      · rw [gapsF, gapAt, List.append_nil, List.mem_singleton] at hg
        subst hg e
        exact ⟨c, rfl, Int.le_refl _⟩
  | (first, some b) :: ps, low, hc, hb => by
    have hb' : Behind (some (b + 1)) ps := fun c e s hs => by
      cases e
      obtain ⟨x, y, e1, e2, h⟩ := (List.pairwise_cons.mp hc.ap).1 s hs
      cases e1
      exact ⟨y, e2, h⟩
    have ih := gaps_ok ps (some (b + 1)) hc.tail hb'
    have hz := ih.len
    cases first with
    | none =>
      have el : low = none := by
        cases low with
        | none => rfl
        | some c =>
          obtain ⟨a', e', h⟩ := hb c rfl (none, some b) (by simp)
          cases e'
      subst el
      refine ⟨fun n => ?_, ih.canon, (fun c e => nomatch e), ?_⟩
      · show hasL (gapsF (some (b + 1)) ps) n = _
        rw [ih.has n, hasL_cons, Bool.eq_iff_iff]
        cases q : hasL ps n with
        | true => simp [fromB]
        | false =>
          simp [fromB, has1]
          omega
      · show (gapsF (some (b + 1)) ps).length ≤ _
        simp only [List.length_cons]
        omega
    | some a =>
      have hab : a ≤ b := hc.ne (some a, some b) (by simp) a b rfl rfl
      have hlow : ∀ c, low = some c → c < a := fun c e => by
        obtain ⟨a', e', h⟩ := hb c e (some a, some b) (by simp)
        cases e'
        exact h
      have eg : gapsF low ((some a, some b) :: ps) = (low, some (a - 1)) :: gapsF (some (b + 1)) ps := rfl
      refine ⟨fun n => ?_, ⟨fun s hs => ?_, ?_⟩, fun c e g hg => ?_, ?_⟩
      · rw [eg, hasL_cons, ih.has n, hasL_cons, Bool.eq_iff_iff]
        cases q : hasL ps n with
        | true =>
          have := behind_has hb' q
          cases low <;> simp [fromB, has1] <;> omega
        | false =>
          cases low with
          | none =>
            simp [fromB, has1]
            omega
          | some c =>
            have := hlow c rfl
            simp [fromB, has1]
            omega
      · rw [eg, List.mem_cons] at hs
        rcases hs with rfl | hs
        · intro l h e1 e2
          cases e2
          have := hlow l e1
          omega
        · exact ih.canon.ne s hs
      · rw [eg, List.pairwise_cons]
        refine ⟨fun g hg => ?_, ih.canon.ap⟩
        obtain ⟨x, e, hx⟩ := ih.at_ _ rfl g hg
        exact ⟨a - 1, x, rfl, e, by omega⟩
      · rw [eg, List.mem_cons] at hg
        subst e
        rcases hg with rfl | hg
        · exact ⟨c, rfl, Int.le_refl _⟩
        · obtain ⟨x, e, hx⟩ := ih.at_ _ rfl g hg
          have := hlow c rfl
          exact ⟨x, e, by omega⟩
      · rw [eg]
        simp only [List.length_cons]
        omega
theorem gaps_has {ps : List Stc} (h : Canon ps) (n : Int) : hasL (gapsF none ps) n = !hasL ps n := by
  rw [(gaps_ok ps none h fun _ e => nomatch e).has n]
  rfl
end Spk

set_option Elab.async false
set_option linter.all false
set_option maxRecDepth 100000
set_option maxHeartbeats 1000000
namespace Spk
open PySem L2

/-! ## readings by steps: one lemma a construct -/
section
variable {σ : L2.St} {H : Hp} {D : Ends} {ta tb te : TE} {Q : VK} {t u : TS} {tt uu : TT} {v x y : V} {i : Nat} {K : PySem.W.Frag}
theorem i_seq (h : t { D with nx := u D } σ H) : tSeq t u D σ H := h
theorem i_next (h : D.nx σ H) : tNext D σ H := h
theorem i_asg {g : TG} (h : te σ H fun x H1 => g x σ H1 D.nx) : tAsg te g D σ H := h
theorem i_name {P : L2.St → Hp → Prop} (h : P (σ.set i (some v)) H) : gName i v σ H P := h
theorem i_ret (h : te σ H D.rt) : tRet te D σ H := h
theorem i_drop (h : te σ H fun _ H1 => D.nx σ H1) : tDrop te D σ H := h
theorem i_ifS (h : tt σ H fun b H1 => if b = true then t D σ H1 else u D σ H1) : tIfS tt t u D σ H := h
theorem i_if (h : tt σ H fun c H1 => if c = true then ta σ H1 Q else tb σ H1 Q) : tIf tt ta tb σ H Q := h
theorem i_var (h : σ[i]? = some (some v)) (q : Q v H) : tVar i σ H Q := ⟨v, h, q⟩
theorem i_c (q : Q v H) : tC v σ H Q := q
theorem i_op {r : R2} (h : ta σ H fun x H1 => tb σ H1 fun y H2 => r x y H2 Q) : tOp r ta tb σ H Q := h
theorem i_un {r : V → Hp → VK → Prop} (h : ta σ H fun x H1 => r x H1 Q) : tUn r ta σ H Q := h
theorem i_rI0 {g : Int → Int → V} {a b : Int} (q : Q (g a b) H) : rI0 g (.int a) (.int b) H Q := ⟨a, b, rfl, rfl, q⟩
theorem i_rI {C : Int → Int → Prop} {g : Int → Int → V} {a b : Int} (hc : C a b) (q : Q (g a b) H) : rI C g (.int a) (.int b) H Q := ⟨a, b, rfl, rfl, hc, q⟩
theorem i_rU {g : Int → V} {a : Int} (q : Q (g a) H) : rU g (.int a) H Q := ⟨a, rfl, q⟩
theorem i_rEq (hs : scal x y = true) (q : Q (.bl (decide (x = y))) H) : rEq x y H Q := ⟨hs, q⟩
theorem i_rNe (hs : scal x y = true) (q : Q (.bl (!decide (x = y))) H) : rNe x y H Q := ⟨hs, q⟩
theorem i_test {P : Bool → Hp → Prop} (h : ta σ H fun x H' => ∃ k, x = .bl k ∧ P k H') : tTest ta σ H P := h
theorem i_tB {P : Bool → Hp → Prop} (h : ta σ H fun x H' => ∃ k, x = .bl k ∧ P k H') : tB ta σ H P := h
theorem i_and {P : Bool → Hp → Prop} (h : tt σ H fun c H1 => if c = true then uu σ H1 P else P false H1) : tAnd tt uu σ H P := h
theorem i_or {P : Bool → Hp → Prop} (h : tt σ H fun c H1 => if c = true then P true H1 else uu σ H1 P) : tOr tt uu σ H P := h
theorem i_not {P : Bool → Hp → Prop} (h : tt σ H fun c H1 => P (!c) H1) : tNot tt σ H P := h
theorem i_andV (h : ta σ H fun x H1 => ∃ c, x = .bl c ∧ if c = true then tb σ H1 Q else Q (.bl false) H1) : tAndV ta tb σ H Q := h
theorem i_orV (h : ta σ H fun x H1 => ∃ c, x = .bl c ∧ if c = true then Q (.bl true) H1 else tb σ H1 Q) : tOrV ta tb σ H Q := h
theorem i_notV (h : ta σ H fun x H1 => ∃ c, x = .bl c ∧ Q (.bl (!c)) H1) : tNotV ta σ H Q := h
theorem i_nil {P : List V → Hp → Prop} (h : P [] H) : tNil σ H P := h
theorem i_cons {tr : TA} {P : List V → Hp → Prop} (h : ta σ H fun x H1 => tr σ H1 fun xs H2 => P (x :: xs) H2) : tCons ta tr σ H P := h
theorem i_cb {r : List V → Hp → VK → Prop} {ts : TA} (h : ts σ H fun vs H1 => r vs H1 Q) : tCB r ts σ H Q := h
theorem i_call {sp : Sp} {E : XK} {ts : TA} (h : ts σ H fun vs H1 => sp (vs ++ []) H1 Q E) : tCall sp [] E ts σ H Q := h
theorem i_bl {c : Bool} {P : Bool → Prop} (h : P c) : ∃ k, V.bl c = .bl k ∧ P k := ⟨c, rfl, h⟩
/-- a new object: the heap behind it is only known by what stood and what is new -/
theorem i_new {o : HO} (h : ∀ p H1, Same H H1 → H p = none → H1 p = some o → Q (.ref p) H1) : ∀ p, H p = none → Q (.ref p) (upd H p o) := fun p hp =>
  h p _ (fun b u e => by rw [upd_ne (ne_of_none e hp)]; exact e) hp upd_same
theorem i_tup {ts : TA} (h : ts σ H fun xs H1 => xs.length ≤ sizeLine ∧ ∀ p, H1 p = none → Q (.ref p) (upd H1 p (.tup xs))) : tTup ts σ H Q := h
theorem i_lst {ts : TA} (h : ts σ H fun xs H1 => xs.length ≤ sizeLine ∧ ∀ p, H1 p = none → Q (.ref p) (upd H1 p (.lst xs))) : tLst ts σ H Q := h
theorem i_sz {xs : List V} {o : HO} (hn : xs.length ≤ 1000) (h : ∀ p H1, Same H H1 → H p = none → H1 p = some o → Q (.ref p) H1) : xs.length ≤ sizeLine ∧ ∀ p, H p = none → Q (.ref p) (upd H p o) :=
  ⟨Nat.le_trans hn (by decide), i_new h⟩
theorem new_heap {o : HO} {p : Addr} (hp : H p = none) : ∃ H1, upd H p o = H1 ∧ Same H H1 ∧ H1 p = some o := ⟨_, rfl, fun b u e => by rw [upd_ne (ne_of_none e hp)]; exact e, upd_same⟩
theorem size_of {n : Nat} (h : n ≤ 100000) : n ≤ sizeLine := Nat.le_trans h (by decide)
theorem size_lt {n : Nat} (h : n ≤ 100000) : n < sizeLine := Nat.lt_of_le_of_lt h (by decide)
theorem i_ixT {p : Addr} {xs : List V} {a : Int} (h : H p = some (.tup xs)) (hv : atI xs a = some v) (q : Q v H) : rIxT K (.ref p) (.int a) H Q := ⟨p, xs, a, v, rfl, rfl, SqT.of h, hv, q⟩
theorem i_ixL {p : Addr} {xs : List V} {a : Int} (h : H p = some (.lst xs)) (hv : atI xs a = some v) (q : Q v H) : rIxL K (.ref p) (.int a) H Q := ⟨p, xs, a, v, rfl, rfl, SqL.of h, hv, q⟩
/-- a for's body and what follows, from the walk on -/
def forK (g : TG) (tb : TS) (D : Ends) (σ : L2.St) : It → Hp → Prop := fun J H1 => ∃ W : Nat → Nat → L2.St → Hp → Prop, (∃ m, W 0 m σ H1) ∧
  ∀ i m σ H, W i m σ H → (J.stop i H ∧ D.nx σ H) ∨ (J.go i H ∧ ∃ N : L2.St → Hp → Prop, (∀ σ' H', N σ' H' → ∃ m', m' < m ∧ W (i + 1) m' σ' H') ∧
    ∀ x H', J.yld i H x H' → g x σ H' fun σ2 H2 => tb { D with nx := N, ct := N, bk := D.nx } σ2 H2)
theorem i_for {wi : TI} {g : TG} (h : wi σ H (forK g t D σ)) : tFor wi g t D σ H := h
theorem i_iL {R : It → Hp → Prop} (h : te σ H fun x H1 => ∃ a, x = .ref a ∧ (∃ xs, SqL K H1 a xs) ∧ R (Itl K a) H1) : iList K te σ H R := h
theorem i_iT {R : It → Hp → Prop} (h : te σ H fun x H1 => ∃ a, x = .ref a ∧ (∃ xs, SqT K H1 a xs) ∧ R (Itt K a) H1) : iTup K te σ H R := h
theorem i_yes {P : Bool → Hp → Prop} (h : P true H) : tYes σ H P := h
theorem i_gsub {to ti : TE} {ts : TSet} {P : L2.St → Hp → Prop} (h : to σ H fun o H1 => ti σ H1 fun i H2 => ts o i v H2 fun H3 => P σ H3) : gSub to ti ts v σ H P := h
theorem pow_ok {a b : Nat} (ha : a ≤ 1000000) (hb : b ≤ 1000000) : CPow (b : Int) (a : Int) := ⟨by omega, by omega, by omega⟩
theorem cmulL {i j : Int} (h : decide (-(2 ^ 64) < i ∧ i < 2 ^ 64) = true) : CMul i j := .inl (of_decide_eq_true h)
theorem i_setL {p : Addr} {xs : List V} {k : Int} {j : Nat} {P : Hp → Prop} (h : H p = some (.lst xs)) (hj : ixN xs.length k = some j) (q : P (upd H p (.lst (xs.set j v)))) : rSetL (.ref p) (.int k) v H P := ⟨p, xs, k, j, rfl, rfl, h, hj, q⟩
theorem i_rng1 {ts : TA} {R : It → Hp → Prop} (h : ts σ H fun vs H1 => ∃ j : Int, vs = [.int j] ∧ -(2 ^ 62) ≤ j ∧ j < 2 ^ 62 ∧ R (Itr 0 j.toNat) H1) : iRng1 ts σ H R := h
theorem i_cut0 (h : t { D with nx := fun σ' H' => σ' = σ ∧ H' = H } σ H) (k : u D σ H) : C8.tCut t u D σ H := ⟨_, h, fun σ' H' e => by rw [e.1, e.2]; exact k⟩
theorem i_cm {C : Addr} {sp : Sp} {E : XK} {ts : TA} (h : te σ H fun x H1 => x = .ref C ∧ ts σ H1 fun vs H2 => sp (.ref C :: vs) H2 Q E) : ClX.tCMeth C sp E te ts σ H Q := h
theorem i_ckw {r : List V → List V → Hp → VK → Prop} {ts tk : TA} (h : ts σ H fun vs H1 => tk σ H1 fun zs H2 => r vs zs H2 Q) : tCKw r ts tk σ H Q := h
theorem i_bm {T : String} {r : V → List V → Hp → VK → Prop} {ts : TA} (h : te σ H fun x H1 => tyV K T x H1 ∧ ts σ H1 fun xs H2 => r x xs H2 Q) : tBM K T r te ts σ H Q := h
theorem i_bm0 {T : String} {r : V → List V → Hp → VK → Prop} (h : te σ H fun x H1 => tyV K T x H1 ∧ r x [] H1 Q) : tBM0 K T r te σ H Q := h
theorem i_tyL {p : Addr} {xs : List V} {A : Prop} (h : H p = some (.lst xs)) (q : A) : tyV K "list" (.ref p) H ∧ A := ⟨.inl ⟨rfl, _, SqL.of h⟩, q⟩
theorem i_app {p : Addr} {xs : List V} (h : H p = some (.lst xs)) (hz : xs.length ≤ 100000) (q : Q .non (upd H p (.lst (xs ++ [v])))) : rAppend (.ref p) [v] H Q := ⟨p, xs, v, rfl, rfl, h, size_lt hz, q⟩
theorem i_pop {p : Addr} {xs : List V} (h : H p = some (.lst (xs ++ [v]))) (q : Q v (upd H p (.lst xs))) : rPop (.ref p) [] H Q := ⟨p, _, v, rfl, rfl, h, by simp, by rw [List.dropLast_concat]; exact q⟩
theorem i_truL {p : Addr} {xs : List V} {P : Bool → Hp → Prop} (h : H p = some (.lst xs)) (q : P (!xs.isEmpty) H) : ∃ k, TruV K (.ref p) H k ∧ P k H := ⟨_, .inl ⟨xs, SqL.of h, rfl⟩, q⟩
theorem i_gtup {p : Addr} {xs : List V} {n : Nat} {g : TGs} {P : L2.St → Hp → Prop} (h : H p = some (.tup xs)) (hn : xs.length = n) (q : g xs σ H P) : gTup K n g (.ref p) σ H P := ⟨p, xs, rfl, SqT.of h, hn, q⟩
theorem i_gcons {g : TG} {gs : TGs} {vs : List V} {P : L2.St → Hp → Prop} (q : g v σ H fun σ' H' => gs vs σ' H' P) : gCons g gs (v :: vs) σ H P := ⟨v, vs, rfl, q⟩
theorem i_gnil {P : L2.St → Hp → Prop} (q : P σ H) : gNil [] σ H P := ⟨rfl, q⟩
theorem i_par {ts : TA} {a b : Nat} (h : ts σ H fun vs H1 => ∃ v w, vs = [v, w] ∧ D.nx ((σ.set a (some v)).set b (some w)) H1) : tPar a b ts D σ H := h
theorem ite_d {c A B : Prop} [Decidable c] (h1 : c → A) (h2 : ¬ c → B) : if decide c = true then A else B := by
  by_cases h : c
  · rw [decide_eq_true h, if_pos rfl]; exact h1 h
  · rw [decide_eq_false h, if_neg (by decide)]; exact h2 h
theorem ite_nd {c A B : Prop} [Decidable c] (h1 : ¬ c → A) (h2 : c → B) : if (!decide c) = true then A else B := by
  by_cases h : c
  · rw [decide_eq_true h, if_neg (by decide)]; exact h2 h
  · rw [decide_eq_false h, if_pos (by decide)]; exact h1 h
end
theorem sm_up {H H' : Hp} {a : Addr} {o : HO} (s : Same H H') (h : H a = some o) : H' a = some o := s a o h

/-! ## the data: stretches, parts, sets -/
abbrev ov : Option Int → V := fun o => match o with
  | none => .non
  | some i => .int i
def kx (s : Stc) : Int := match s.1 with | none => 0 | some _ => 1
def ky (s : Stc) : Int := match s.1 with | none => 0 | some i => i
def key (s : Stc) : List V := [.int (kx s), .int (ky s)]
def keyD (s : Stc) : PyData := .tuple [.int (kx s), .int (ky s)]
/-- v is a tuple (low, high) -/
def TupS (H : Hp) (v : V) (s : Stc) : Prop := ∃ a, v = .ref a ∧ H a = some (.tup [ov s.1, ov s.2])
/-- the values are stretches, one by one -/
def Tups (H : Hp) : List V → List Stc → Prop := Paired (TupS H)
theorem TupS.up {H H' : Hp} {v : V} {s : Stc} (e : Same H H') (h : TupS H v s) : TupS H' v s := by
  obtain ⟨a, rfl, h⟩ := h
  exact ⟨a, rfl, e _ _ h⟩
theorem Tups.up {H H' : Hp} {vs : List V} {ss : List Stc} (e : Same H H') (h : Tups H vs ss) : Tups H' vs ss := Paired.mapP h fun _ _ z => z.up e

theorem tups_zip {H : Hp} {xs : List V} {ss : List Stc} (h : Tups H xs ss) : ∀ b, b ∈ xs.zip ss → TupS H b.1 b.2 := by
  induction h with
  | nil => intro b hb; simp at hb
  | cons r t ih =>
    intro b hb
    rw [List.zip_cons_cons] at hb
    rcases List.mem_cons.mp hb with rfl | hb
    · exact r
    · exact ih b hb
theorem tups_of {H : Hp} : ∀ {bs : List (V × Stc)}, (∀ b, b ∈ bs → TupS H b.1 b.2) → Tups H (bs.map (·.1)) (bs.map (·.2))
  | [], _ => .nil
  | b :: bs, h => .cons (h b (by simp)) (tups_of fun c hc => h c (by simp [hc]))
theorem kxy_le {a b : Stc} (h : kx a < kx b ∨ (kx a = kx b ∧ ky a ≤ ky b)) : lowLe a.1 b.1 := by
  obtain ⟨l, r⟩ := a
  obtain ⟨l', r'⟩ := b
  cases l <;> cases l' <;> simp_all [kx, ky, lowLe]
/-- what sorted by start_of gives: the same stretches, by their low ends -/
theorem sorted_low {H : Hp} {xs : List V} {ss : List Stc} (h : Tups H xs ss) : ∃ ss', Tups H (byKeys xs (ss.map keyD)) ss' ∧ ss'.Perm ss ∧ ss'.Pairwise fun a b => lowLe a.1 b.1 := by
  have hlen : xs.length = ss.length := Paired.length h
  have e1 : xs.zip (ss.map keyD) = (xs.zip ss).map fun b => (b.1, keyD b.2) := by rw [List.zip_map_right]; rfl
  have hle : PySem.W.dataLe false (fun b : V × Stc => keyD b.2) = fun p q => decide (kx p.2 < kx q.2 ∨ (kx p.2 = kx q.2 ∧ ky p.2 ≤ ky q.2)) := PySem.W.dataLe_ii (fun b : V × Stc => kx b.2) fun b => ky b.2
  have e2 : byKeys xs (ss.map keyD) = ((xs.zip ss).mergeSort (PySem.W.dataLe false fun b : V × Stc => keyD b.2)).map (·.1) := by
    unfold byKeys
    rw [e1, ← List.map_mergeSort (f := fun b : V × Stc => (b.1, keyD b.2)) (r := PySem.W.dataLe false fun b : V × Stc => keyD b.2) (s := PySem.W.dataLe false fun b : V × PyData => b.2) (fun _ _ _ _ => rfl), List.map_map]
    rfl
  rw [e2, hle]
  have pm := List.mergeSort_perm (xs.zip ss) fun p q => decide (kx p.2 < kx q.2 ∨ (kx p.2 = kx q.2 ∧ ky p.2 ≤ ky q.2))
  have pw := List.pairwise_mergeSort (le := fun p q : V × Stc => decide (kx p.2 < kx q.2 ∨ (kx p.2 = kx q.2 ∧ ky p.2 ≤ ky q.2)))
    (fun a b c h1 h2 => by simp only [decide_eq_true_eq] at *; omega) (fun a b => by simp only [Bool.or_eq_true, decide_eq_true_eq]; omega) (xs.zip ss)
  refine ⟨_, tups_of fun b hb => tups_zip h b (pm.mem_iff.mp hb), ?_, ?_⟩
  · have := pm.map (·.2)
    rwa [List.map_snd_zip (by omega)] at this
  · refine List.pairwise_map.mpr (pw.imp fun {a b} hab => kxy_le (by simpa using hab))
theorem keys_alike (ss : List Stc) : PySem.W.AllAlike (ss.map keyD) := PySem.W.AllAlike.of fun _ _ => by simp [keyD, PySem.W.alike, PySem.W.alikeAll]
theorem keys_sort (ss : List Stc) : PySem.W.Sortable (ss.map keyD) := PySem.W.Sortable.tuples fun _ => ⟨_, _, rfl⟩
theorem keys_deep (ss : List Stc) : ∀ d, d ∈ ss.map keyD → d.depth ≤ 100 := fun d hd => by
  obtain ⟨s, _, rfl⟩ := List.mem_map.mp hd
  simp [keyD, PyData.depth, PyData.depthAll]

/-! ## cls(..) of a local name, C.m() without arguments -/
section
open PySem.Spec PyProof.Rows ClX StX
variable {X : Cx} {CX : CXT} {k i : Nat} {f C p g : Addr} {mc : Value} {sp : Sp} {E : XK} {x m : Str} {q pos apos : Pos} {e o : Expr} {es : List Expr} {ta : TE} {t : TA}
def tMakeL (i : Nat) (C : Addr) (sp : Sp) (E : XK) (t : TA) : TE := fun σ H Q => σ[i]? = some (some (.ref C)) ∧ tMakeR C sp E t σ H Q
theorem pe_makeL (M : Mk X.K C f) (F : FnR X.prog X.w X.K X.mg X.base CX k f sp) (hr : Room (k + 1) X.A) (hN : X.N[i]? = some x) (hv : Vis X.env.scope x) (hx : Passes CX X E) (ha : PA X (e :: es) t)
    (hdb : (x == ("__debug__" : Str)) = false := by decide) (hcd : (x == ("__classdict__" : Str)) = false := by decide)
    (he : starEach (e :: es) X.env = (false, eval e X.env) :: starEach es X.env := by rfl) (hpl : (backTo pos (starEach es X.env)).any (·.1) = false := by rfl) : PE X (.Call (.Name x q) (e :: es) [] pos) (tMakeL i C sp E t) := by
  refine ⟨fun pins s σ H Q I h => ?_⟩
  obtain ⟨hs, ht⟩ := h
  have ld := (pe_var (pos := q) hN hv hdb hcd).run pins s σ H (fun v H1 => v = .ref C ∧ H1 = H) I ⟨.ref C, hs, rfl, rfl⟩
  refine wpAny_Call_Name_kw (thn ld fun u s1 ⟨v, H1, I1, r1, q1⟩ => ?_)
  obtain ⟨rfl, rfl⟩ := q1
  cases r1
  refine PySem.W.callWith_K (h₀ := X.base) I.ok.mod.kin M.kp (thn (ha.run pos pins s1 σ _ _ I1 ht) fun us s2 ⟨vs, H2, I2, r, z⟩ => ⟨I2.kIn, ?_⟩) he hpl
  exact run_makeR M F hr hx I2 r z
theorem pe_cmeth0 {pl : Sem Bool} (he : PE X o ta) (r : CRead X.K C mc) (c : CMet X.K C mc m p g) (F : FnR X.prog X.w X.K X.mg X.base CX k g sp) (hr : Room k X.A) (hx : Passes CX X E)
    (ht : eval (.Call (.Attribute o m apos) [] [] pos) X.env = (do
      let ov ← eval o X.env
      standAt apos.atName
      let (f, first) ← holding [ov] (getMethod ov m pl)
      callWith pos f first (backTo pos (starEach [] X.env)) (backToKw pos (keywordEach [] X.env))) := by rfl) : PE X (.Call (.Attribute o m apos) [] [] pos) (tCMeth C sp E ta tNil) := by
  refine ⟨fun pins s σ H Q I h => ?_⟩
  refine PySem.W.methodCall_KW (pl := pl) (thn (he.run pins s σ H _ I h) fun u s1 ⟨x, H1, I1, rx, ex, z⟩ => ?_) ht
  subst ex
  obtain rfl : u = Value.ref C := rx
  refine getmethcm_ok I1 r c fun s2 I2 => ?_
  exact PySem.W.callWith_M0 (first := []) ⟨pin_at I2, I2.kIn⟩ c.fi (run_cm F hr hx I2 .nil z)
end

/-- def f(a, .., *v) by its text -/
theorem _root_.L2.Fun.okStar {P : Program} {w : World} {K : PySem.W.Frag} {mg : Str → Option Value} {base : Heap} {x qual pv : Str} {st : Stmt} {f : Addr} {fd : FuncData} {N ps : List Str} {k : Nat} {sp : Sp} (F : Fun K x qual st f fd) (S : FnScope N (ps ++ [pv]) (defScope st))
    (hb : ∀ (kV doc pm : Value) (an : Option Addr) (cdv ct : Value) (us rest : List Value), us.length = ps.length →
      bindArgs (PySem.W.fnOf x qual (defArgs st) (defBody st) (defScope st) .none kV doc pm an cdv ct) ⟨us ++ rest, []⟩ = (newTuple rest >>= fun t => pure (ps.zip us ++ [(pv, t)])))
    (hbody : ∀ (cdv : Value) (A : Around) (outer : List Env) (s : Shared) (H : Hp) (vs : List V) (Q : VK) (E : XK), Room k (A.deeper (PyProof.Rows.envOfC qual (defScope st) s.heap.objs.size f cdv)) → sp vs H Q E →
      ∃ t, PSs (cxOf CX0 P w K mg base N qual (defScope st) f cdv A outer s H E).nox (defBody st) t ∧ t { nx := fun _ H' => Q .non H', rt := Q } (L2.start N vs) H) :
    FnR P w K mg base CX0 (k + 1) f (fun vs H Q E => ∃ ws rest, vs = ws ++ rest ∧ ws.length = ps.length ∧ rest.length ≤ sizeLine ∧ ∀ p, H p = none → sp (ws ++ [V.ref p]) (upd H p (.tup rest)) Q E) := by
  obtain ⟨oc, od, kV, doc, pm, an, cdv, ct, osl, rfl, lk, hcd⟩ := F.ex
  refine StX.fn_star lk hcd S StX.cxUp_none (hb kV doc pm an cdv ct) fun A outer s H vs Q E hr hsp => ?_
  obtain ⟨t, h, q⟩ := hbody cdv A outer s H vs Q E hr hsp
  exact ⟨t, h.nox, q⟩
end Spk

set_option Elab.async false
set_option linter.all false
set_option maxRecDepth 100000
set_option maxHeartbeats 1000000
namespace Spk
open PySem PySem.Spec PyProof.Rows PySem.W L2
/-! ## not a, a an instance with its own __bool__ -/
section
variable {X : Cx} {n : Nat} {C f : Addr} {sp : Sp} {a : Expr} {ta : TE} {pos : Pos}
def tNotO (C : Addr) (sp : Sp) (ta : TE) : TE := fun σ H Q => ta σ H fun x H1 => rTruO C sp x H1 fun k H2 => Q (.bl (!k)) H2
theorem pe_notO (F : FnR X.prog X.w X.K X.mg X.base CX0 n f sp) (hr : Room n X.A) (hs : findIn X.K (.ref C) "__bool__" = some (some (.ref f))) (hf : isFn X.K (.ref f) = true) (ha : PE X a ta) : PE X (.UnaryOp .Not a pos) (tNotO C sp ta) := by
  refine ⟨fun pins s σ H Q I h => ?_⟩
  refine UnaryOp_ (thn (ha.run pins s σ H _ I h) fun v s1 ⟨x, H1, I1, r1, q1⟩ => ?_)
  exact not_of (thn (truthy_own F (sub0 hr) hs hf I1 r1 q1) fun c s2 ⟨H2, I2, q2⟩ => ⟨.bl (!c), H2, I2, rfl, q2⟩)
end
end Spk

set_option Elab.async false
set_option linter.all false
set_option maxRecDepth 100000
set_option maxHeartbeats 2000000
namespace Spk
open PySem PySem.Spec PyProof.Rows L2
open AutoSeq1 (wpAny_loadPart')

/-! ## for i, x in enumerate(t), t a tuple -/
abbrev itO (l : Addr) : Obj := { cls := .type "tuple_iterator", data := .fields #[.ref l, .int 0 0] }
abbrev enO (k : Addr) : Obj := { cls := .type "enumerate", data := .fields #[.none, .bool false, .ref k, rawInt 0, .none, .none] }
set_option maxHeartbeats 4000000 in
theorem enum_newT (l : Addr) (items : Array Value) (n : Nat) (dd : Option Addr) (sl : Array (Option Value)) : Meets (Builtin.«enumerate.__new__» ⟨[.type "enumerate", .ref l], []⟩) (fun _ R s =>
      s.heap.get? l = some { cls := .type "tuple", dict := dd, data := .seq items n, slots := sl } ∧ R (.ok (.ret (.ref (s.heap.push (itO l)).objs.size))) { s with heap := (s.heap.push (itO l)).push (enO s.heap.objs.size) }) :=
  .of_wp fun prog w A R s h => by
    obtain ⟨hp, g, d, tk, os⟩ := s
    obtain ⟨hl, h⟩ := h
    have hT : hp.IsTuple l items := ⟨_, hl, rfl, n, rfl⟩
    have hsub := sub_enumerate
    wp_walk using wpAny_loadPart' hl
    refine wpAny_stack_any fun st => wpAny_pure ?_
    split
    · rename_i c _ _ _ _ _
      cases (c == Value.type "enumerate") <;> (wp_walk using wpAny_loadPart' hl, wpAny_pyIter_tuple hT; exact ⟨_, rfl, h⟩)
    · (wp_walk using wpAny_loadPart' hl, wpAny_pyIter_tuple hT); exact ⟨_, rfl, h⟩

theorem call_enumT {prog : Program} {w : World} {A : Around} {E : Value → Shared → Prop} {s : Shared} {l : Addr} {items : Array Value} {Q : Value → Shared → Prop} (hL : s.heap.IsTuple l items)
    (h : ∀ h', IsEnum h' (s.heap.objs.size + 1) s.heap.objs.size 0 .none → h'.IsTupleIter s.heap.objs.size l 0 → (∀ b o, s.heap.get? b = some o → h'.get? b = some o) → Q (.ref (s.heap.objs.size + 1)) { s with heap := h' }) :
    wpAny (model prog w) A (call (.type "enumerate") [.ref l]) Q E s := by
  obtain ⟨⟨c, dct, dt, sl⟩, hl, hc, n, hd⟩ := hL
  replace hc : c = .type "tuple" := hc
  replace hd : dt = .seq items n := hd
  subst hc hd
  have hz : (s.heap.push (itO l)).objs.size = s.heap.objs.size + 1 := Heap.size_push ..
  have he : IsEnum ((s.heap.push (itO l)).push (enO s.heap.objs.size)) (s.heap.objs.size + 1) s.heap.objs.size 0 .none := by
    have := Heap.get?_push_size (s.heap.push (itO l)) (o := enO s.heap.objs.size) rfl
    rw [hz] at this
    exact this
  have fin := h _ he ⟨_, Heap.get?_push_of_some _ (Heap.get?_push_size _ rfl), rfl, rfl⟩ fun b o x => Heap.get?_push_of_some _ (Heap.get?_push_of_some _ x)
  refine callType_new PySem.F.called_enumerate (by decide) (PySem.F.typeCall_enumerate_1 _) (PySem.F.newCall_enumerate_1 _) (fun obj => PySem.F.args_object_init_2 obj _) PySem.F.entry_enumerate_new (enum_newT l items n dct sl) ⟨hl, ?_⟩
  show _ ∧ _
  rw [hz]
  exact ⟨⟨_, he, rfl⟩, fin⟩
/-- the tuple at a, each item in a new pair -/
def IteT (K : PySem.W.Frag) (a : Addr) : It where
  go := fun i H => ∃ (xs : List V) (x : V), SqT K H a xs ∧ xs[i]? = some x
  yld := fun i H v H' => ∃ T x, v = .ref T ∧ H T = none ∧ H' = upd H T (.tup [.int (i : Nat), x]) ∧ ∀ xs, SqT K H a xs → xs[i]? = some x
  stop := fun i H => ∃ xs : List V, SqT K H a xs ∧ xs.length = i
theorem turn_enumT {P : Program} {w : World} {K : PySem.W.Frag} {elts : List Expr} {kk : Nat} {tpos : Pos} (a e it : Addr) :
    Turn P w K (.Tuple elts kk tpos) (IteT K a) [e, it] e (fun i h => (∃ old, IsEnum h e it ((i : Nat) : Int) old) ∧ h.IsTupleIter it a i ∧ e ≠ it ∧ a ≠ it ∧ a ≠ e) where
  mem := by simp
  obj := fun i h st b hb => by
    obtain ⟨⟨old, he⟩, ⟨o, ho, hc, hd⟩, _⟩ := st
    rcases List.mem_cons.mp hb with rfl | hb
    · exact ⟨_, he, fun v q => nomatch q⟩
    · rw [List.mem_singleton.mp hb]
      exact ⟨o, ho, fun v q => by rw [hd] at q; cases q⟩
  keep := fun i h h' st k => by
    obtain ⟨⟨old, he⟩, hi, hne⟩ := st
    exact ⟨⟨old, k e (by simp) _ he⟩, hi.at fun o q => k it (by simp) o q, hne⟩
  item := by
    intro X hP hw hK hc i pins s σ H E I hf st hg
    subst hP hw hK
    obtain ⟨⟨old, he⟩, hit, hne, hai, hae⟩ := st
    obtain ⟨xs, x, hq, hx⟩ := hg
    obtain ⟨its, rv, p, hz⟩ := I.tuple hq
    obtain ⟨u, hu, ru⟩ := rv.get hx
    have hel : e < s.heap.objs.size := Heap.lt_size he
    have hil : it < s.heap.objs.size := by
      obtain ⟨_, q, _⟩ := hit
      exact Heap.lt_size q
    have hi : i < its.toArray.size := by
      rw [List.size_toArray]
      exact (List.getElem?_eq_some_iff.mp hu).1
    have D := Draws.tuple (prog := X.prog) (w := X.w) (A := X.A.in1) (I.ok.hd hc) it a hai its.toArray
    refine wpAny_pyNext_enum_itemD D he ⟨hit, p⟩ hi hne (by simp [hne, Ne.symm hae]) fun x' h' tk hx' ho hst hT hsz hk => ?_
    have ex : x' = u := by
      have h1 : its.toArray[i]? = some u := by simpa using hu
      rw [h1] at hx'
      exact (Option.some.inj hx').symm
    subst ex
    refine ⟨_, rfl, wpAny_letOwnedTupleGo_enum (s := { s with heap := h', toks := tk + 1 }) ho fun h'' he' sb => ?_⟩
    have hT2 : h''.get? s.heap.objs.size = some { cls := .type "tuple", data := .seq #[.int i tk, x'] } := (sb.2 _ (Nat.ne_of_gt hel)).trans hT
    have new : ObjOk X.prog X.w (upd H s.heap.objs.size (.tup [.int (i : Nat), x])) h'' s.heap.objs.size (.tup [.int (i : Nat), x]) :=
      ⟨size_of (Nat.le_of_ble_eq_true rfl), [.int i tk, x'], .cons ⟨_, rfl⟩ (.cons ru .nil), ⟨_, hT2, rfl, _, rfl⟩⟩
    have keepB : ∀ b ob, b ∉ [e, it] → s.heap.get? b = some ob → h''.get? b = some ob := fun b ob hb q => by
      simp only [List.mem_cons, List.not_mem_nil, or_false, not_or] at hb
      exact (sb.2 b hb.1).trans (hk b ob hb.1 hb.2 q)
    have I1 := I.turnedNew (t' := tk + 1) (ch := [e, it]) keepB hf (Nat.le_refl _) new
    refine ⟨.ref s.heap.objs.size, _, I1, rfl, ⟨_, x, rfl, I.hok.fresh (Nat.le_refl _), rfl, fun ys hy => by rw [I.tuple_inj hy hq]; exact hx⟩, ⟨⟨x', ?_⟩, hst.1.at fun o q => (sb.2 it (Ne.symm hne)).trans q, hne, hai, hae⟩, fun b hb => ?_⟩
    · rw [show ((i + 1 : Nat) : Int) = (i : Int) + 1 from rfl]
      exact he'
    · have hb' : b < s.heap.objs.size := by
        rcases List.mem_cons.mp hb with rfl | hb
        · exact hel
        · rw [List.mem_singleton.mp hb]; exact hil
      rw [upd_ne (Nat.ne_of_lt hb')]
      exact (hf b hb).1
  done := by
    intro X hP hw hK hc i pins s σ H E I hf st hg
    subst hP hw hK
    obtain ⟨⟨old, he⟩, hit, hne, hai, hae⟩ := st
    obtain ⟨xs, hq, hx⟩ := hg
    obtain ⟨its, rv, p, hz⟩ := I.tuple hq
    obtain ⟨f0, f1, f2, f3, f4, f5⟩ := hf it (by simp)
    have D := Draws.tuple (prog := X.prog) (w := X.w) (A := X.A.in1) (I.ok.hd hc) it a hai its.toArray
    have hsz : its.toArray.size = i := by rw [List.size_toArray, ← rv.length]; exact hx
    refine wpAny_pyNext_enum_endD D he ⟨by rw [hsz]; exact hit, p⟩ fun h' eb => ⟨rfl, ?_⟩
    exact I.turned (t' := s.toks) (fun b o hb q => eb b o hb q) f0 f1 f3 f4 f5
  self := fun A i s Q E st h => by
    obtain ⟨⟨_, he⟩, _⟩ := st
    exact wpAny_pyIter_enum he h

def iEnumT (K : PySem.W.Frag) (ta : TA) : TI := fun σ H R => ta σ H fun vs H1 => ∃ a xs, vs = [.ref a] ∧ SqT K H1 a xs ∧ R (IteT K a) H1
theorem i_iET {K : PySem.W.Frag} {σ : L2.St} {H : Hp} {ts : TA} {R : It → Hp → Prop} (h : ts σ H fun vs H1 => ∃ a xs, vs = [.ref a] ∧ SqT K H1 a xs ∧ R (IteT K a) H1) : iEnumT K ts σ H R := h
theorem pi_enumT {X : Cx} {e : Expr} {ta : TA} {p pos tpos : Pos} {elts : List Expr} {kk : Nat} (hg : Gl X "enumerate") (hm : X.mg "enumerate" = none) (ha : PA X [e] ta) (hs : starEach [e] X.env = [(false, eval e X.env)] := by rfl) :
    PI X (.Tuple elts kk tpos) (.Call (.Name "enumerate" p) [e] [] pos) (iEnumT X.K ta) := by
  refine ⟨fun pins s σ H R I h => ?_⟩
  refine Call_ (ld_blt I hg hm boot_enumerate (callWith_type1 (thn (ha.run pos pins s σ H _ I h) fun us s1 ⟨vs, H1, I1, r1, q1⟩ => ?_) hs rfl))
  obtain ⟨a, xs, ex, hq, q⟩ := q1
  subst ex
  obtain ⟨u, rfl, ru⟩ := r1.one
  cases ru
  obtain ⟨its, rv, p', hz⟩ := I1.tuple hq
  have ha' : a < s1.heap.objs.size := by
    obtain ⟨o, ho, _⟩ := p'
    exact Heap.lt_size ho
  refine call_enumT p' fun h' he hit hk => wpAny_pyIter_enum he ?_
  have I2 : Inv X pins σ H1 { s1 with heap := h' } := I1.kept (t' := s1.toks) hk
  have ne1 : a ≠ s1.heap.objs.size := Nat.ne_of_lt ha'
  have ne2 : a ≠ s1.heap.objs.size + 1 := Nat.ne_of_lt (Nat.lt_succ_of_lt ha')
  refine ⟨s1.heap.objs.size + 1, [s1.heap.objs.size + 1, s1.heap.objs.size], _, _, H1, rfl, I2, turn_enumT a (s1.heap.objs.size + 1) s1.heap.objs.size, ⟨⟨.none, he⟩, hit, Nat.succ_ne_self _, ne1, ne2⟩, fun b hb => ?_, q⟩
  have hle : s1.heap.objs.size ≤ b := by
    rcases List.mem_cons.mp hb with rfl | hb
    · exact Nat.le_succ _
    · rw [List.mem_singleton.mp hb]
      exact Nat.le_refl _
  exact I1.fpOk hle (I1.hok.fresh hle)
theorem for_enumT {K : PySem.W.Frag} {a : Addr} {xs : List V} {g : TG} {tb : TS} {D : Ends} {σ : L2.St} {H : Hp} (Pv : Nat → L2.St → Hp → Prop) (h0 : Pv 0 σ H) (hl : ∀ i σ H, i ≤ xs.length → Pv i σ H → SqT K H a xs)
    (hs : ∀ i x T σ H, xs[i]? = some x → Pv i σ H → H T = none → g (.ref T) σ (upd H T (.tup [.int (i : Nat), x])) fun σ2 H2 => tb { D with nx := Pv (i + 1), ct := Pv (i + 1), bk := D.nx } σ2 H2) (hd : ∀ σ H, Pv xs.length σ H → D.nx σ H) :
    forK g tb D σ (IteT K a) H := by
  refine ⟨fun i m σ H => m = xs.length - i ∧ i ≤ xs.length ∧ Pv i σ H, ⟨_, rfl, Nat.zero_le _, h0⟩, ?_⟩
  rintro i m σ H ⟨rfl, hi, p⟩
  by_cases e : i = xs.length
  · subst e
    exact .inl ⟨⟨xs, hl _ _ _ hi p, rfl⟩, hd _ _ p⟩
  · have hlt : i < xs.length := by omega
    refine .inr ⟨⟨xs, xs[i], hl _ _ _ hi p, List.getElem?_eq_getElem hlt⟩, Pv (i + 1), fun σ' H' p' => ⟨_, ?_, rfl, hlt, p'⟩, ?_⟩
    · omega
    · rintro x H' ⟨T, y, rfl, hT, rfl, hy⟩
      exact hs i y T σ H (hy xs (hl _ _ _ hi p)) p hT
end Spk

set_option Elab.async false
set_option linter.all false
set_option maxRecDepth 100000
set_option maxHeartbeats 1000000
namespace Spk
open PySem L2
def top (i : Nat) : Stmt := PySem.Challenge.pw_speaklast_k02_sets_joined_and_cut.main.body.getD i (.Pass ⟨0, 0, 0, 0⟩)
local macro_rules | `(tactic| walk_at "rd") => `(tactic| repeat (first
  | with_reducible refine i_seq ?_ | with_reducible refine i_asg ?_ | with_reducible refine i_ret ?_ | with_reducible refine i_ifS ?_ | with_reducible refine i_if ?_
  | with_reducible refine i_for ?_ | with_reducible refine i_iL ?_ | with_reducible refine i_iT ?_ | with_reducible refine i_ckw ?_ | with_reducible refine i_cm ?_ | with_reducible refine And.intro (rfl : V.ref _ = V.ref _) ?_ | with_reducible refine i_rng1 ?_ | with_reducible refine i_bm ?_ | with_reducible refine i_bm0 ?_
  | with_reducible refine i_drop ?_ | with_reducible refine i_next ?_
  | with_reducible refine i_var rfl ?_ | with_reducible refine i_c ?_ | with_reducible refine i_op ?_ | with_reducible refine i_un ?_ | with_reducible refine i_name ?_
  | with_reducible refine i_rI0 ?_ | with_reducible refine i_rU ?_ | with_reducible refine i_rEq rfl ?_ | with_reducible refine i_rNe rfl ?_
  | with_reducible refine i_test ?_ | with_reducible refine i_tB ?_ | with_reducible refine i_and ?_ | with_reducible refine i_or ?_ | with_reducible refine i_not ?_
  | with_reducible refine i_andV ?_ | with_reducible refine i_orV ?_ | with_reducible refine i_notV ?_
  | with_reducible refine i_cons ?_ | with_reducible refine i_nil ?_ | with_reducible refine i_cb ?_ | with_reducible refine i_call ?_ | with_reducible refine i_bl ?_
  | with_reducible refine i_tup ?_ | with_reducible refine i_lst ?_ | with_reducible refine i_par ?_ | with_reducible refine i_gcons ?_ | with_reducible refine i_gnil ?_
  | with_reducible refine And.intro (rfl : V.non = V.non) ?_ | with_reducible refine i_ixT (by assumption) rfl ?_ | with_reducible refine i_ixL (by assumption) rfl ?_ | with_reducible refine i_gtup (by assumption) rfl ?_
  | with_reducible refine i_gsub ?_
  | with_reducible refine Or.inl (Exists.intro _ (And.intro (rfl : [V.int _] = [V.int _]) ?_)) | with_reducible refine Exists.intro _ (And.intro (rfl : [V.int _] = [V.int _]) ?_)
  | with_reducible refine Or.inr (Exists.intro _ (And.intro (rfl : [V.bl _] = [V.bl _]) ?_))
  | with_reducible refine Exists.intro _ (Exists.intro _ (And.intro (rfl : [V.int _, V.int _] = [V.int _, V.int _]) ?_))
  | with_reducible refine Exists.intro _ (Exists.intro _ (And.intro (rfl : [V.ref _] = [V.ref _]) (And.intro (Or.inl (SqL.of (by assumption))) ?_)))
  | with_reducible refine i_rI (show (0 : Int) < _ by assumption) ?_ | with_reducible refine i_rI (show (0 : Int) < _ by decide) ?_
  | with_reducible refine i_rI (pow_ok (Nat.le_of_ble_eq_true rfl) (Nat.le_of_ble_eq_true rfl)) ?_
  | with_reducible refine i_rI (cmulL rfl) ?_))
/-- the parts of a set stand at t -/
def PartsT (H : Hp) (t : Addr) (ps : List Stc) : Prop := ∃ vs, H t = some (.tup vs) ∧ Tups H vs ps
theorem PartsT.up {H H' : Hp} {t : Addr} {ps : List Stc} (e : Same H H') (h : PartsT H t ps) : PartsT H' t ps := by
  obtain ⟨vs, h, z⟩ := h
  exact ⟨vs, e _ _ h, z.up e⟩
theorem ov_non {o : Option Int} (h : ov o = .non) : o = none := by
  cases o with
  | none => rfl
  | some i => cases h
theorem ov_some {o : Option Int} (h : ¬ ov o = .non) : ∃ i, o = some i := by
  cases o with
  | none => exact absurd rfl h
  | some i => exact ⟨i, rfl⟩

section
variable {P : Program} {w : World} {K : PySem.W.Frag} {mg : Str → Option Value} {base : Heap}
/-! ### start_of, touches, later_end -/
abbrev s_start_of : Stmt := top 3
theorem sc_start_of : FnScope ["stretch", "low"] ["stretch"] (defScope s_start_of) := ⟨rfl, rfl, rfl, by decide +kernel, rfl, by decide +kernel, by decide +kernel⟩
def sp_start_of : Sp := fun vs H Q _ => ∃ (v : V) (s : Stc), vs = [v] ∧ TupS H v s ∧ ∀ p H', Same H H' → H' p = some (.tup (key s)) → Q (.ref p) H'
theorem ok_start_of {f : Addr} {fd : FuncData} (F : Fun K "start_of" "start_of" s_start_of f fd) : FnOk P w K mg base CX0 1 f fd ["stretch"] sp_start_of := by
  refine F.ok sc_start_of (fun vs H Q E h => ?_) (fun cdv A outer s H vs Q E hr h => ?_)
  · obtain ⟨v, s, rfl, _⟩ := h
    rfl
  · obtain ⟨v, ⟨lo, hi⟩, rfl, ⟨a, rfl, ha⟩, q⟩ := h
    refine ⟨_, (pss_cons (ps_set (i := 1) sc_start_of.nd rfl (Or.inl rfl) (pe_ix ix_tup (pv 0) pe_int (fun _ _ => rfl)))
 (pss_one (ps_ret (pe_ifExp (pt_cmpR op_isN (pv 1) pe_non (nomark _)) (pe_tup (pa_cons pe_int (pa_cons pe_int pa_nil))) (pe_tup (pa_cons pe_int (pa_cons (pv 1) pa_nil))))))), ?_⟩
    walk_at "rd"
    refine ite_d (fun h => ?_) (fun h => ?_)
    · walk_at "rd"
      have e := ov_non h
      dsimp only at e
      subst e
      exact i_sz (Nat.le_of_ble_eq_true rfl) fun p H1 s1 _ e => q p H1 s1 e
    · obtain ⟨i, rfl⟩ := ov_some h
      walk_at "rd"
      exact i_sz (Nat.le_of_ble_eq_true rfl) fun p H1 s1 _ e => q p H1 s1 e
abbrev s_touches : Stmt := top 5
theorem sc_touches : FnScope ["part", "low", "high"] ["part", "low"] (defScope s_touches) := ⟨rfl, rfl, rfl, by decide +kernel, rfl, by decide +kernel, by decide +kernel⟩
def sp_touches : Sp := fun vs H Q _ => ∃ (v : V) (s : Stc) (lo : Option Int), vs = [v, ov lo] ∧ TupS H v s ∧ Q (.bl (touchB s.2 lo)) H
theorem ok_touches {f : Addr} {fd : FuncData} (F : Fun K "touches" "touches" s_touches f fd) : FnOk P w K mg base CX0 1 f fd ["part", "low"] sp_touches := by
  refine F.ok sc_touches (fun vs H Q E h => ?_) (fun cdv A outer s H vs Q E hr h => ?_)
  · obtain ⟨v, s, lo, rfl, _⟩ := h
    rfl
  · obtain ⟨v, ⟨lo, hi⟩, l, rfl, ⟨a, rfl, ha⟩, q⟩ := h
    refine ⟨_, (pss_cons (ps_set (i := 2) sc_touches.nd rfl (Or.inl rfl) (pe_ix ix_tup (pv 0) pe_int (fun _ _ => rfl)))
 (pss_one (ps_ret (pe_or (pe_cmpR op_isN (pv 1) pe_non (nomark _)) (pe_or (pe_cmpR op_isN (pv 2) pe_non (nomark _)) (pe_one (pe_cmpR op_le (pv 1) (pe_op op_add (pv 2) pe_int) (nomark _)))))))), ?_⟩
    walk_at "rd"
    refine ite_d (fun h => ?_) (fun h => ?_)
    · have e := ov_non h
      subst e
      exact q
    · obtain ⟨i, rfl⟩ := ov_some h
      walk_at "rd"
      refine ite_d (fun h => ?_) (fun h => ?_)
      · have e := ov_non h
        subst e
        exact q
      · obtain ⟨j, rfl⟩ := ov_some h
        walk_at "rd"
        exact q
abbrev s_later_end : Stmt := top 6
theorem sc_later_end : FnScope ["one", "other"] ["one", "other"] (defScope s_later_end) := ⟨rfl, rfl, rfl, by decide +kernel, rfl, by decide +kernel, by decide +kernel⟩
def sp_later_end : Sp := fun vs H Q _ => ∃ (a b : Option Int), vs = [ov a, ov b] ∧ Q (ov (laterE a b)) H
theorem ok_later_end {f : Addr} {fd : FuncData} (F : Fun K "later_end" "later_end" s_later_end f fd) (z_max : mg "max" = none) : FnOk P w K mg base CX0 1 f fd ["one", "other"] sp_later_end := by
  refine F.ok sc_later_end (fun vs H Q E h => ?_) (fun cdv A outer s H vs Q E hr h => ?_)
  · obtain ⟨a, b, rfl, _⟩ := h
    rfl
  · obtain ⟨a, b, rfl, q⟩ := h
    refine ⟨_, (pss_cons (ps_if (PW.pt (pw_or (pt_cmpR op_isN (pv 0) pe_non (nomark _)) (pw_or1 (pt_cmpR op_isN (pv 1) pe_non (nomark _)))))
 (pss_one (ps_ret pe_non))
 pss_nil)
 (pss_one (ps_ret (pe_callB (call_max2 rfl) (by rfl) z_max (by decide +kernel) (pa_cons (pv 0) (pa_cons (pv 1) pa_nil)))))), ?_⟩
    walk_at "rd"
    refine ite_d (fun h => ?_) (fun h => ?_)
    · have e := ov_non h
      subst e
      refine iteT ?_
      walk_at "rd"
      exact q
    · obtain ⟨i, rfl⟩ := ov_some h
      walk_at "rd"
      refine ite_d (fun h => ?_) (fun h => ?_)
      · have e := ov_non h
        subst e
        walk_at "rd"
        exact q
      · obtain ⟨j, rfl⟩ := ov_some h
        walk_at "rd"
        exact q
/-! ### in_parts -/
theorem tups_get {H : Hp} {vs : List V} {ps : List Stc} (h : Tups H vs ps) {i : Nat} (hi : i < ps.length) : ∃ v, vs[i]? = some v ∧ TupS H v ps[i] := by
  induction h generalizing i with
  | nil => simp at hi
  | cons r t ih =>
    cases i with
    | zero => exact ⟨_, rfl, r⟩
    | succ i => exact ih (by simpa using hi)
theorem tups_len {H : Hp} {vs : List V} {ps : List Stc} (h : Tups H vs ps) : vs.length = ps.length := Paired.length h
structure SInv (t : Addr) (n : Int) (ps : List Stc) (H0 : Hp) (m : Nat) (σ : L2.St) (H : Hp) : Prop where
  ex : ∃ (a b : Nat) (x y z : Option V), m = b - a ∧ a ≤ b ∧ b ≤ ps.length ∧ H = H0 ∧ σ = [some (.ref t), some (.int n), some (.int a), some (.int b), x, y, z] ∧
    (∀ (j : Nat) s, j < a → ps[j]? = some s → has1 s n = false) ∧ (∀ (j : Nat) s, b ≤ j → ps[j]? = some s → has1 s n = false)
abbrev s_in_parts : Stmt := top 8
theorem sc_in_parts : FnScope ["parts", "number", "start", "end", "middle", "low", "high"] ["parts", "number"] (defScope s_in_parts) := ⟨rfl, rfl, rfl, by decide +kernel, rfl, by decide +kernel, by decide +kernel⟩
def sp_in_parts : Sp := fun vs H Q _ => ∃ (t : Addr) (ps : List Stc) (n : Int), vs = [.ref t, .int n] ∧ PartsT H t ps ∧ Canon ps ∧ Q (.bl (hasL ps n)) H
theorem ok_in_parts {f : Addr} {fd : FuncData} (F : Fun K "in_parts" "in_parts" s_in_parts f fd) (z_len : mg "len" = none) : FnOk P w K mg base CX0 1 f fd ["parts", "number"] sp_in_parts := by
  refine F.ok sc_in_parts (fun vs H Q E h => ?_) (fun cdv A outer s H vs Q E hr h => ?_)
  · obtain ⟨t, ps, n, rfl, _⟩ := h
    rfl
  · obtain ⟨t, ps, n, rfl, ⟨vs, ht, tu⟩, hc, q⟩ := h
    refine ⟨_, (pss_cons (ps_set (i := 2) sc_in_parts.nd rfl (Or.inl rfl) pe_int)
 (pss_cons (ps_set (i := 3) sc_in_parts.nd rfl (Or.inl rfl) (pe_callB call_len_seq (by rfl) z_len PySem.boot_len (pa_cons (pv 0) pa_nil)))
 (pss_cons (ps_while PassesOwn.never (pt_cmpR op_lt (pv 2) (pv 3) (nomark _))
 (pss_cons (ps_set (i := 4) sc_in_parts.nd rfl (Or.inl rfl) (pe_op op_fdivW (pe_op op_add (pv 2) (pv 3)) pe_int))
 (pss_cons (ps_asg (pe_ix ix_tup (pv 0) (pv 4) (fun _ _ => rfl)) (pg_tup (by rfl) (pgs_cons (pg_name (i := 5) sc_in_parts.nd rfl (Or.inl rfl)) (pgs_cons (pg_name (i := 6) sc_in_parts.nd rfl (Or.inl rfl)) pgs_nil))))
 (pss_one (ps_if (PW.pt (pw_and (pt_cmpR op_notN (pv 5) pe_non (nomark _)) (pw_and1 (pt_cmpR op_lt (pv 1) (pv 5) (nomark _)))))
 (pss_one (ps_set (i := 3) sc_in_parts.nd rfl (Or.inl rfl) (pv 4)))
 (pss_one (ps_if (PW.pt (pw_and (pt_cmpR op_notN (pv 6) pe_non (nomark _)) (pw_and1 (pt_cmpR op_gt (pv 1) (pv 6) (nomark _)))))
 (pss_one (ps_set (i := 2) sc_in_parts.nd rfl (Or.inl rfl) (pe_op op_add (pv 4) pe_int)))
 (pss_one (ps_ret pe_bl)))))))))
 (pss_one (ps_ret pe_bl))))), ?_⟩
    walk_at "rd"
    refine ⟨t, vs, rfl, .inr (SqT.of ht), ?_⟩
    walk_at "rd"
    have hlen := tups_len tu
    refine ⟨SInv t n ps H, ⟨vs.length, ⟨0, vs.length, none, none, none, rfl, Nat.zero_le _, Nat.le_of_eq hlen, rfl, rfl, fun j s h => absurd h (Nat.not_lt_zero _), fun j s h e => ?_⟩⟩, ?_⟩
    · rw [List.getElem?_eq_none (by omega)] at e
      cases e
    rintro m σ H' ⟨⟨a, b, x, y, z, em, hab, hb, eH, rfl, lo, hi⟩⟩
    subst H'
    walk_at "rd"
    refine ite_d (fun h => ?_) (fun h => ?_)
    · refine ⟨fun σ' H' => ∃ m', m' < m ∧ SInv t n ps H m' σ' H', fun _ _ h => h, ?_⟩
      walk_at "rd"
      refine i_rI (wide_div (b := 2) (by decide) (by decide) (by decide) (by decide)) ?_
      walk_at "rd"
      have e2 : (((a : Int) + (b : Int)) / 2) = (((a + b) / 2 : Nat) : Int) := by omega
      have hm : (a + b) / 2 < ps.length := by omega
      obtain ⟨v, hv, c, rfl, hcc⟩ := tups_get tu hm
      rw [e2]
      refine i_ixT ht (atI_nat hv) ?_
      walk_at "rd"
      generalize hs : ps[(a + b) / 2] = s at hcc
      have hs' : ps[(a + b) / 2]? = some s := by rw [List.getElem?_eq_getElem hm, hs]
      obtain ⟨l, r⟩ := s
      dsimp only at hcc ⊢
      -- the number lies ahead of this part, behind it, or in it
      have goL : ∀ (k : Int) (x y z : Option V), l = some k → n < k → ∃ m', m' < m ∧ SInv t n ps H m' [some (.ref t), some (.int n), some (.int a), some (.int ((a + b) / 2 : Nat)), x, y, z] H := fun k x y z hk hn =>
        ⟨(a + b) / 2 - a, by omega, ⟨a, (a + b) / 2, x, y, z, rfl, by omega, by omega, rfl, rfl, lo, fun j s hj e => search_low hc hs' hk hn hj e⟩⟩
      have goR : ∀ (k : Int) (x y z : Option V), r = some k → k < n → ∃ m', m' < m ∧ SInv t n ps H m' [some (.ref t), some (.int n), some (.int ((a + b) / 2 + 1 : Nat)), some (.int b), x, y, z] H := fun k x y z hk hn =>
        ⟨b - ((a + b) / 2 + 1), by omega, ⟨(a + b) / 2 + 1, b, x, y, z, rfl, by omega, hb, rfl, rfl, fun j s hj e => search_high hc hs' hk hn (by omega) e, hi⟩⟩
      have found : has1 (l, r) n = true → Q (.bl true) H := fun hh => by
        have e : hasL ps n = true := List.any_eq_true.mpr ⟨_, List.mem_of_getElem? hs', hh⟩
        rw [e] at q
        exact q
      have rest : (∀ k, l = some k → k ≤ n) → tIfS
            (tAnd (tTest (tOp (fun x y H Q => y = V.non ∧ Q (V.bl !decide (x = V.non)) H) (tVar 6) (tC V.non)))
              (tTest (tOp (rI0 fun i j => V.bl (decide (j < i))) (tVar 1) (tVar 6))))
            (tAsg (tOp (rI0 fun i j => V.int (i + j)) (tVar 4) (tC (V.int 1))) (gName 2)) (tRet (tC (V.bl true)))
            { nx := fun σ' H' => ∃ m', m' < m ∧ SInv t n ps H m' σ' H', rt := Q, bk := fun σ H => Q (.bl false) H, ct := fun σ' H' => ∃ m', m' < m ∧ SInv t n ps H m' σ' H' }
            [some (.ref t), some (.int n), some (.int a), some (.int b), some (.int ((a + b) / 2 : Nat)), some (ov l), some (ov r)] H := by
        intro hl
        walk_at "rd"
        cases r with
        | none =>
          refine ite_nd (fun h => absurd rfl h) (fun _ => ?_)
          refine iteF ?_
          walk_at "rd"
          exact found (has1_of hl fun k hk => nomatch hk)
        | some k =>
          refine ite_nd (fun _ => ?_) (fun h => nomatch h)
          walk_at "rd"
          refine ite_d (fun h => ?_) (fun h => ?_)
          · walk_at "rd"
            exact goR k _ _ _ rfl h
          · walk_at "rd"
            exact found (has1_of hl fun j hj => by cases hj; omega)
      cases l with
      | none =>
        refine ite_nd (fun h => absurd rfl h) (fun _ => ?_)
        refine iteF ?_
        exact rest (fun k hk => nomatch hk)
      | some k =>
        refine ite_nd (fun _ => ?_) (fun h => nomatch h)
        walk_at "rd"
        refine ite_d (fun h => ?_) (fun h => ?_)
        · walk_at "rd"
          exact goL k _ _ _ rfl h
        · exact rest (fun j hj => by cases hj; omega)
    · walk_at "rd"
      have e : hasL ps n = false := by
        unfold hasL
        rw [List.any_eq_false]
        intro s hs
        obtain ⟨j, hj⟩ := List.mem_iff_getElem?.mp hs
        rcases Nat.lt_or_ge j a with q1 | q1
        · rw [lo j s q1 hj]; simp
        · rw [hi j s (by omega) hj]; simp
      rw [e] at q
      exact q

/-! ### joined -/
theorem dp_key {H : Hp} {p : Addr} {s : Stc} (h : H p = some (.tup (key s))) : Dp K H (.ref p) (keyD s) := .tup (SqT.of h) (.cons (.int _) (.cons (.int _) .nil))
abbrev s_joined : Stmt := top 4
theorem sc_joined : FnScope ["stretches", "parts", "low", "high", "first", "last"] ["stretches"] (defScope s_joined) := ⟨rfl, rfl, rfl, by decide +kernel, rfl, by decide +kernel, by decide +kernel⟩
def sp_joined (K : PySem.W.Frag) : Sp := fun vs H Q _ => ∃ (l : Addr) (xs : List V) (ss : List Stc), vs = [.ref l] ∧ (SqL K H l xs ∨ SqT K H l xs) ∧ Tups H xs ss ∧ ss.length ≤ 1000 ∧ (∀ s, s ∈ ss → NE s) ∧
  ∀ p H' ps, Same H H' → PartsT H' p ps → Canon ps → (∀ n, hasL ps n = hasL ss n) → ps.length ≤ ss.length → Q (.ref p) H'
/-- what holds between two turns: the list at d holds the joined stretches so far -/
structure JInv (H0 : Hp) (a p d : Addr) (L : List V) (ss : List Stc) (i : Nat) (σ : L2.St) (H : Hp) : Prop where
  ex : ∃ (acc : List Stc) (vs : List V) (x y z w : Option V), σ = [some (.ref a), some (.ref d), x, y, z, w] ∧ Same H0 H ∧ H p = some (.lst L) ∧ H d = some (.lst vs) ∧ Tups H vs acc ∧ Joins acc (ss.take i) (ss.drop i) ∧ acc.length ≤ i
theorem joinF_len (acc : List Stc) (s : Stc) : (joinF acc s).length ≤ acc.length + 1 := by
  unfold joinF
  cases h : acc.getLast? with
  | none => simp
  | some p =>
    dsimp only
    split
    · simp
    · simp
theorem Same.mut {H0 H : Hp} {d : Addr} {o : HO} (e : Same H0 H) (h : H0 d = none) : Same H0 (upd H d o) := fun b u hb => by
  rw [upd_ne (ne_of_none hb h)]
  exact e b u hb
/-- tuples stay where a list is changed -/
theorem Tups.mut {H : Hp} {d : Addr} {ys zs : List V} {vs : List V} {ss : List Stc} (h : Tups H vs ss) (hd : H d = some (.lst ys)) : Tups (upd H d (.lst zs)) vs ss :=
  Paired.mapP h fun v s ⟨a, e, ha⟩ => ⟨a, e, by rw [upd_ne (ne_of ha hd (by intro z; cases z))]; exact ha⟩
theorem tups_snoc {H : Hp} {vs : List V} {ss : List Stc} {v : V} {s : Stc} (h : Tups H vs ss) (hv : TupS H v s) : Tups H (vs ++ [v]) (ss ++ [s]) := by
  induction h with
  | nil => exact .cons hv .nil
  | cons r t ih => exact .cons r ih
theorem tups_concat {H : Hp} {s : Stc} : ∀ {ss : List Stc} {vs : List V}, Tups H vs (ss ++ [s]) → ∃ vs' v, vs = vs' ++ [v] ∧ Tups H vs' ss ∧ TupS H v s
  | [], _, .cons r .nil => ⟨[], _, rfl, .nil, r⟩
  | a :: ss, _, .cons r t => by
    obtain ⟨vs', v, e, t', hv⟩ := tups_concat (ss := ss) t
    subst e
    exact ⟨_ :: vs', v, rfl, .cons r t', hv⟩
theorem ok_joined {f fS fT fE : Addr} {fd fdS fdT fdE : FuncData} (F : Fun K "joined" "joined" s_joined f fd) (FS : Fun K "start_of" "start_of" s_start_of fS fdS) (B_start_of : Binds K fdS ["stretch"] []) (g_start_of : mg "start_of" = some (.ref fS))
    (F_touches : Fun K "touches" "touches" s_touches fT fdT) (B_touches : Binds K fdT ["part", "low"] []) (g_touches : mg "touches" = some (.ref fT))
    (F_later_end : Fun K "later_end" "later_end" s_later_end fE fdE) (B_later_end : Binds K fdE ["one", "other"] []) (g_later_end : mg "later_end" = some (.ref fE))
    (z_max : mg "max" = none) (z_sorted : mg "sorted" = none) (z_tuple : mg "tuple" = none) : FnOk P w K mg base CX0 4 f fd ["stretches"] (sp_joined K) := by
  have GS : FnOk P w K mg base CX0 1 fS fdS ["stretch"] sp_start_of := ok_start_of FS
  have RS := FnOk.raw GS B_start_of .nil
  have G_touches : FnOk P w K mg base CX0 1 fT fdT ["part", "low"] sp_touches := ok_touches F_touches
  have G_later_end : FnOk P w K mg base CX0 1 fE fdE ["one", "other"] sp_later_end := ok_later_end F_later_end z_max
  refine F.ok sc_joined (fun vs H Q E h => ?_) (fun cdv A outer s H vs Q E hr h => ?_)
  · obtain ⟨l, xs, ss, rfl, _⟩ := h
    rfl
  · obtain ⟨l, xs, ss, rfl, hl, tu, hz, hne, q⟩ := h
    refine ⟨_, (pss_cons (ps_set (i := 1) sc_joined.nd rfl (Or.inl rfl) (pe_lst pa_nil))
 (pss_cons (ps_for PassesOwn.never rfl (pi_list (pe_callBK (cr_sortKey RS (hr.mono (by decide))) (by rfl) z_sorted (by decide +kernel) (pa_cons (pv 0) pa_nil) (pk_cons (pe_glob rfl g_start_of (relR _)) pk_nil))) (pg_tup (by rfl) (pgs_cons (pg_name (i := 2) sc_joined.nd rfl (Or.inl rfl)) (pgs_cons (pg_name (i := 3) sc_joined.nd rfl (Or.inl rfl)) pgs_nil)))
 (pss_one (ps_if (PW.pt (pw_and (pt_truth (pv 1) (by intro _; rfl)) (pw_and1 (pt_val (pe_call G_touches (hr.mono (by decide)) rfl g_touches F_touches.kp B_touches .nil pass0 (pa_cons (pe_ix ix_list (pv 1) (pe_un un_neg pe_int) (fun _ _ => rfl)) (pa_cons (pv 2) pa_nil)))))))
 (pss_cons (ps_asg (pe_bm0 PySem.F.plainAttrs_list PySem.F.slot_list_pop PySem.F.type_list_pop mt_pop (pv 1)) (pg_tup (by rfl) (pgs_cons (pg_name (i := 4) sc_joined.nd rfl (Or.inl rfl)) (pgs_cons (pg_name (i := 5) sc_joined.nd rfl (Or.inl rfl)) pgs_nil))))
 (pss_one (ps_expr (pe_bm PySem.F.plainAttrs_list PySem.F.slot_list_append PySem.F.type_list_append mt_append (pv 1) (pa_cons (pe_tup (pa_cons (pv 4) (pa_cons (pe_call G_later_end (hr.mono (by decide)) rfl g_later_end F_later_end.kp B_later_end .nil pass0 (pa_cons (pv 5) (pa_cons (pv 3) pa_nil))) pa_nil))) pa_nil)))))
 (pss_one (ps_expr (pe_bm PySem.F.plainAttrs_list PySem.F.slot_list_append PySem.F.type_list_append mt_append (pv 1) (pa_cons (pe_tup (pa_cons (pv 2) (pa_cons (pv 3) pa_nil))) pa_nil)))))))
 (pss_one (ps_ret (pe_callTy call_tuple_of (by rfl) z_tuple (by decide +kernel) (pa_cons (pv 1) pa_nil)))))), ?_⟩
    walk_at "rd"
    refine ⟨Nat.zero_le _, fun d hd0 => ?_⟩
    obtain ⟨H1, e1, s1, hd⟩ := new_heap (o := .lst []) hd0
    rw [e1]
    walk_at "rd"
    have hl1 : SqL K H1 l xs ∨ SqT K H1 l xs := hl.elim (fun z => .inl (SqL.ext z s1)) fun z => .inr (SqT.ext z s1)
    have tu1 := tu.up s1
    have hlen := tups_len tu
    refine ⟨l, xs, ss.map keyD, rfl, rfl, hl1, by rw [List.length_map]; exact hlen.symm, keys_alike ss, keys_sort ss, keys_deep ss, fun i x d hx hk H' sm => ?_, fun H2 p sm hp => ?_⟩
    · have hi : i < ss.length := by
        have := (List.getElem?_eq_some_iff.mp hk).1
        simpa using this
      obtain ⟨v, hv, ts⟩ := tups_get tu1 hi
      rw [hx] at hv
      cases hv
      have hd : d = keyD ss[i] := by
        rw [List.getElem?_map, List.getElem?_eq_getElem hi] at hk
        exact (Option.some.inj hk).symm
      subst hd
      exact ⟨x, ss[i], rfl, ts.up sm, fun p H'' s2 e => ⟨s2, dp_key e⟩⟩
    obtain ⟨ss', tu', pm, pw⟩ := sorted_low tu
    obtain ⟨H3, e3, s3, hp3⟩ := new_heap (o := .lst (byKeys xs (ss.map keyD))) hp
    rw [e3]
    have s13 : Same H1 H3 := fun b o z => s3 _ _ (sm _ _ z)
    have s03 : Same H H3 := fun b o z => s13 _ _ (s1 _ _ z)
    have hdp : d ≠ p := ne_of_none (sm _ _ hd) hp
    have hl3 := tups_len tu'
    have hle : ss'.length = ss.length := pm.length_eq
    have hne' : ∀ s, s ∈ ss' → NE s := fun s hs => hne s (pm.mem_iff.mp hs)
    generalize hL : byKeys xs (ss.map keyD) = L at *
    refine ⟨p, rfl, ⟨_, SqL.of hp3⟩, for_list (K := K) (a := p) (xs := L) (JInv H l p d L ss') ⟨[], [], none, none, none, none, rfl, s03, hp3, s13 _ _ hd, .nil, ⟨⟨fun s hs => (by simp at hs), .nil⟩, fun n => rfl, fun a ha => (by simp at ha)⟩, Nat.le_refl _⟩ ?_ ?_ ?_⟩
    · rintro i σ H' _ ⟨acc, vs, x, y, z, w, _, _, hp4, _⟩
      exact SqL.of hp4
    · rintro i x σ H' hx ⟨acc, vs, x1, y1, z1, w1, rfl, sm4, hp4, hd4, ta, jn, hai⟩
      have hi : i < ss'.length := by
        have := (List.getElem?_eq_some_iff.mp hx).1
        omega
      obtain ⟨v, hv, c, rfl, hc⟩ := tups_get tu' hi
      rw [hx] at hv
      cases hv
      have hc4 := sm4 _ _ hc
      have jn' : Joins (joinF acc ss'[i]) (ss'.take (i + 1)) (ss'.drop (i + 1)) := by
        rw [List.drop_eq_getElem_cons hi] at jn
        rw [List.take_succ_eq_append_getElem hi]
        refine joins_step jn (hne' _ (List.getElem_mem hi)) ?_
        rw [← List.drop_eq_getElem_cons hi]
        exact pw.drop
      have hjl := joinF_len acc ss'[i]
      generalize hs : ss'[i] = s at *
      obtain ⟨lo, hi'⟩ := s
      dsimp only at hc4
      -- what the turn leaves
      have fin : ∀ (vs' : List V) (H5 : Hp) (x y z w : Option V), Same H H5 → H5 p = some (.lst L) → H5 d = some (.lst vs') → Tups H5 vs' (joinF acc (lo, hi')) → JInv H l p d L ss' (i + 1) [some (.ref l), some (.ref d), x, y, z, w] H5 :=
        fun vs' H5 x y z w a1 a2 a3 a4 => ⟨_, vs', x, y, z, w, rfl, a1, a2, a3, a4, jn', by omega⟩
      have hva := tups_len ta
      -- the appending of a tuple
      have app : ∀ (ws : List V) (ac : List Stc) (u v : Option Int) (H5 : Hp), Same H H5 → H5 p = some (.lst L) → H5 d = some (.lst ws) → Tups H5 ws ac → ac ++ [(u, v)] = joinF acc (lo, hi') → ∀ q, H5 q = none →
          ∀ R : VK, (∀ H6, (∀ x y z w, JInv H l p d L ss' (i + 1) [some (.ref l), some (.ref d), x, y, z, w] H6) → R .non H6) → rAppend (.ref d) [.ref q] (upd H5 q (.tup [ov u, ov v])) R := by
        intro ws ac u v H5 a1 a2 a3 a4 e q hq R hR
        obtain ⟨H6, e6, s6, hq6⟩ := new_heap (o := .tup [ov u, ov v]) hq
        rw [e6]
        have hw : ws.length ≤ 100000 := by
          have h1 := tups_len a4
          have h2 := congrArg List.length e
          simp only [List.length_append, List.length_singleton] at h2
          omega
        refine i_app (s6 _ _ a3) hw (hR _ fun x y z w => fin (ws ++ [.ref q]) _ x y z w ?_ ?_ upd_same ?_)
        · exact Same.mut (fun b o z => s6 _ _ (a1 _ _ z)) hd0
        · rw [upd_ne hdp.symm]
          exact s6 _ _ a2
        · rw [← e]
          exact Tups.mut (tups_snoc (a4.up s6) ⟨q, rfl, hq6⟩) (s6 _ _ a3)
      walk_at "rd"
      refine ⟨!vs.isEmpty, .inl ⟨vs, SqL.of hd4, rfl⟩, ?_⟩
      rcases List.eq_nil_or_concat acc with rfl | ⟨ac, p', rfl⟩
      · have ev : vs = [] := List.length_eq_zero_iff.mp (by simpa using hva)
        subst ev
        refine iteF (iteF ?_)
        walk_at "rd"
        refine i_tyL hd4 ?_
        walk_at "rd"
        refine ⟨size_of (Nat.le_of_ble_eq_true rfl), fun q hq => ?_⟩
        walk_at "rd"
        refine app [] [] lo hi' H' sm4 hp4 hd4 ta rfl q hq _ ?_
        exact fun H6 h => h _ _ _ _
      · simp only [List.concat_eq_append] at *
        obtain ⟨vs', v, rfl, ta', tp⟩ := tups_concat ta
        have hne : (!(vs' ++ [v]).isEmpty) = true := by simp
        rw [hne]
        refine iteT ?_
        walk_at "rd"
        refine i_ixL hd4 (atI_last _ _) ?_
        walk_at "rd"
        refine ⟨v, p', lo, rfl, tp, ?_⟩
        walk_at "rd"
        have ejn : joinF (ac ++ [p']) (lo, hi') = if touchB p'.2 lo = true then ac ++ [(p'.1, laterE p'.2 hi')] else ac ++ [p'] ++ [(lo, hi')] := by
          unfold joinF
          rw [List.getLast?_concat]
          simp only [List.dropLast_concat]
        by_cases ht : touchB p'.2 lo = true
        · rw [ht]
          refine iteT ?_
          rw [if_pos ht] at ejn
          walk_at "rd"
          refine i_tyL hd4 (i_pop hd4 ?_)
          obtain ⟨c', rfl, hc'⟩ := tp
          have hcd : c' ≠ d := ne_of hc' hd4 (by intro z; cases z)
          have hc5 : upd H' d (.lst vs') c' = some (.tup [ov p'.1, ov p'.2]) := by rw [upd_ne hcd]; exact hc'
          walk_at "rd"
          refine i_tyL upd_same ?_
          walk_at "rd"
          refine ⟨p'.2, hi', rfl, ?_⟩
          walk_at "rd"
          refine ⟨size_of (Nat.le_of_ble_eq_true rfl), fun q hq => ?_⟩
          walk_at "rd"
          refine app vs' ac p'.1 (laterE p'.2 hi') _ (Same.mut sm4 hd0) (by rw [upd_ne hdp.symm]; exact hp4) upd_same (ta'.mut hd4) ejn.symm q hq _ ?_
          exact fun H6 h => h _ _ _ _
        · have ht' : touchB p'.2 lo = false := by simpa using ht
          rw [ht']
          refine iteF ?_
          rw [if_neg ht] at ejn
          walk_at "rd"
          refine i_tyL hd4 ?_
          walk_at "rd"
          refine ⟨size_of (Nat.le_of_ble_eq_true rfl), fun q hq => ?_⟩
          walk_at "rd"
          refine app _ _ lo hi' H' sm4 hp4 hd4 ta ejn.symm q hq _ ?_
          exact fun H6 h => h _ _ _ _
    · rintro σ H' ⟨acc, vs, x1, y1, z1, w1, rfl, sm4, hp4, hd4, ta, jn, hai⟩
      walk_at "rd"
      rw [hl3, List.take_length, List.drop_length] at jn
      refine ⟨d, vs, rfl, .inl ⟨SqL.of hd4, fun p6 hp6 => ?_⟩⟩
      obtain ⟨H6, e6, s6, h6⟩ := new_heap (o := .tup vs) hp6
      rw [e6]
      refine q p6 H6 acc (fun b o z => s6 _ _ (sm4 _ _ z)) ⟨vs, h6, ta.up s6⟩ jn.canon (fun n => ?_) (by omega)
      rw [jn.has n]
      exact Bool.eq_iff_iff.mpr (by simp only [hasL, List.any_eq_true]; exact ⟨fun ⟨s, hs, e⟩ => ⟨s, pm.mem_iff.mp hs, e⟩, fun ⟨s, hs, e⟩ => ⟨s, pm.mem_iff.mpr hs, e⟩⟩)
end
end Spk

set_option Elab.async false
set_option linter.all false
set_option maxRecDepth 100000
set_option maxHeartbeats 1000000
namespace Spk
open PySem L2
local macro_rules | `(tactic| walk_at "rd") => `(tactic| repeat (first
  | with_reducible refine i_seq ?_ | with_reducible refine i_asg ?_ | with_reducible refine i_ret ?_ | with_reducible refine i_ifS ?_ | with_reducible refine i_if ?_
  | with_reducible refine i_for ?_ | with_reducible refine i_iL ?_ | with_reducible refine i_iT ?_ | with_reducible refine i_ckw ?_ | with_reducible refine i_cm ?_ | with_reducible refine And.intro (rfl : V.ref _ = V.ref _) ?_ | with_reducible refine i_rng1 ?_ | with_reducible refine i_bm ?_ | with_reducible refine i_bm0 ?_
  | with_reducible refine i_drop ?_ | with_reducible refine i_next ?_
  | with_reducible refine i_var rfl ?_ | with_reducible refine i_c ?_ | with_reducible refine i_op ?_ | with_reducible refine i_un ?_ | with_reducible refine i_name ?_
  | with_reducible refine i_rI0 ?_ | with_reducible refine i_rU ?_ | with_reducible refine i_rEq rfl ?_ | with_reducible refine i_rNe rfl ?_
  | with_reducible refine i_test ?_ | with_reducible refine i_tB ?_ | with_reducible refine i_and ?_ | with_reducible refine i_or ?_ | with_reducible refine i_not ?_
  | with_reducible refine i_andV ?_ | with_reducible refine i_orV ?_ | with_reducible refine i_notV ?_
  | with_reducible refine i_cons ?_ | with_reducible refine i_nil ?_ | with_reducible refine i_cb ?_ | with_reducible refine i_call ?_ | with_reducible refine i_bl ?_
  | with_reducible refine i_tup ?_ | with_reducible refine i_lst ?_ | with_reducible refine i_par ?_ | with_reducible refine i_gcons ?_ | with_reducible refine i_gnil ?_
  | with_reducible refine And.intro (rfl : V.non = V.non) ?_ | with_reducible refine i_ixT (by assumption) rfl ?_ | with_reducible refine i_ixL (by assumption) rfl ?_ | with_reducible refine i_gtup (by assumption) rfl ?_
  | with_reducible refine i_gsub ?_
  | with_reducible refine Or.inl (Exists.intro _ (And.intro (rfl : [V.int _] = [V.int _]) ?_)) | with_reducible refine Exists.intro _ (And.intro (rfl : [V.int _] = [V.int _]) ?_)
  | with_reducible refine Or.inr (Exists.intro _ (And.intro (rfl : [V.bl _] = [V.bl _]) ?_))
  | with_reducible refine Exists.intro _ (Exists.intro _ (And.intro (rfl : [V.int _, V.int _] = [V.int _, V.int _]) ?_))
  | with_reducible refine Exists.intro _ (Exists.intro _ (And.intro (rfl : [V.ref _] = [V.ref _]) (And.intro (Or.inl (SqL.of (by assumption))) ?_)))
  | with_reducible refine i_rI (show (0 : Int) < _ by assumption) ?_ | with_reducible refine i_rI (show (0 : Int) < _ by decide) ?_
  | with_reducible refine i_rI (pow_ok (Nat.le_of_ble_eq_true rfl) (Nat.le_of_ble_eq_true rfl)) ?_
  | with_reducible refine i_rI (cmulL rfl) ?_))
/-! ### the class Ranges -/
def Rng (C : Addr) (H : Hp) (r : Addr) (ps : List Stc) : Prop := ∃ dx t, H r = some (.ins C dx [("parts", .ref t)]) ∧ PartsT H t ps ∧ Canon ps
theorem Rng.up {C : Addr} {H H' : Hp} {r : Addr} {ps : List Stc} (e : Same H H') (h : Rng C H r ps) : Rng C H' r ps := by
  obtain ⟨dx, t, a, b, c⟩ := h
  exact ⟨dx, t, e _ _ a, b.up e, c⟩
theorem Rng.canon {C : Addr} {H : Hp} {r : Addr} {ps : List Stc} (h : Rng C H r ps) : Canon ps := let ⟨_, _, _, _, c⟩ := h; c
/-- parts as data -/
def oD : Option Int → PyData
  | none => .none
  | some i => .int i
def stD (s : Stc) : PyData := .tuple [oD s.1, oD s.2]
def psD (ps : List Stc) : PyData := .tuple (ps.map stD)
theorem dp_ov {K : PySem.W.Frag} {H : Hp} (o : Option Int) : Dp K H (ov o) (oD o) := by
  cases o with
  | none => exact .non
  | some i => exact .int i
theorem dps_tups {K : PySem.W.Frag} {H : Hp} {vs : List V} {ps : List Stc} (h : Tups H vs ps) : DpAll K H vs (ps.map stD) := by
  induction h with
  | nil => exact .nil
  | cons r t ih =>
    obtain ⟨a, rfl, ha⟩ := r
    exact .cons (.tup (SqT.of ha) (.cons (dp_ov _) (.cons (dp_ov _) .nil))) ih
theorem dp_parts {K : PySem.W.Frag} {H : Hp} {t : Addr} {ps : List Stc} (h : PartsT H t ps) : Dp K H (.ref t) (psD ps) := by
  obtain ⟨vs, h, tu⟩ := h
  exact .tup (SqT.of h) (dps_tups tu)
theorem eqv_oD (a b : Option Int) : PyData.eqv (oD a) (oD b) = decide (a = b) := by
  cases a <;> cases b <;> simp [oD, PyData.eqv]
  rw [Bool.eq_iff_iff]
  simp
theorem eqv_stD (a b : Stc) : PyData.eqv (stD a) (stD b) = decide (a = b) := by
  obtain ⟨l, r⟩ := a
  obtain ⟨l', r'⟩ := b
  simp only [stD, PyData.eqv, PyData.eqvAll, eqv_oD, Bool.and_true, Prod.mk.injEq]
  rw [Bool.eq_iff_iff]
  simp
theorem eqvAll_ps : ∀ ps qs : List Stc, PyData.eqvAll (ps.map stD) (qs.map stD) = decide (ps = qs)
  | [], [] => by simp [PyData.eqvAll]
  | [], _ :: _ => by simp [PyData.eqvAll]
  | _ :: _, [] => by simp [PyData.eqvAll]
  | a :: ps, b :: qs => by
    simp only [List.map_cons, PyData.eqvAll, eqv_stD, eqvAll_ps ps qs, List.cons.injEq]
    rw [Bool.eq_iff_iff]
    simp
theorem eqv_psD (ps qs : List Stc) : PyData.eqv (psD ps) (psD qs) = decide (ps = qs) := by
  simp only [psD, PyData.eqv]
  exact eqvAll_ps ps qs
theorem lay_oD (o : Option Int) : (oD o).canLay0 = true := by cases o <;> simp [oD, PyData.canLay0]
theorem lay_stD (s : Stc) : (stD s).canLay0 = true := by simp [stD, PyData.canLay0, PyData.canLayAll0, lay_oD]
theorem lay_ps : ∀ ps : List Stc, PyData.canLayAll0 (ps.map stD) = true
  | [] => by simp [PyData.canLayAll0]
  | a :: ps => by simp [PyData.canLayAll0, lay_stD, lay_ps ps]
theorem dep_oD (o : Option Int) : (oD o).depth = 0 := by cases o <;> simp [oD, PyData.depth]
theorem dep_ps : ∀ ps : List Stc, PyData.depthAll (ps.map stD) ≤ 2
  | [] => by simp [PyData.depthAll]
  | a :: ps => by
    have := dep_ps ps
    simp only [List.map_cons, PyData.depthAll, stD, PyData.depth, dep_oD]
    omega
theorem shaped_ps (ps : List Stc) : SeqAt.shaped (psD ps) = true := by
  have h1 := lay_ps ps
  have h2 := dep_ps ps
  simp only [SeqAt.shaped, psD, PyData.canLay0, h1, PyData.depth, Bool.true_and, decide_eq_true_eq]
  omega

/-- what the text says of the class -/
structure ClsT (K : PySem.W.Frag) (mg : Str → Option Value) (C fI fE : Addr) : Prop where
  cl : Cls K C
  nP : NoAttr K C "parts"
  M : Mk K C fI
  g_C : mg "Ranges" = some (.ref C)
  self : PySem.W.selfFirst K C = true
  eq : OwnEq K C fE
  cls : PySem.W.findIn K (.ref C) "__class__" = some (some (.builtin "object.__class__"))
  get : PySem.W.specialIn K (.builtin "object.__class__") "__get__" = some (some (.builtin "getset_descriptor.__get__"))
  tk : PySem.W.takesIn K (.builtin "object.__class__") = some true
  mro : PySem.W.mroIn K C (.type "object") = some true
  kit : PySem.W.kitOne K (.ref C) (.ref C) = some true
  kn : PySem.W.kitOne K (.type "NoneType") (.ref C) = some false
  kb : PySem.W.kitOne K (.type "bool") (.ref C) = some false
  ki : PySem.W.kitOne K (.type "int") (.ref C) = some false
  ks : PySem.W.kitOne K (.type "str") (.ref C) = some false
  kl : PySem.W.kitOne K (.type "list") (.ref C) = some false
  kt : PySem.W.kitOne K (.type "tuple") (.ref C) = some false
section
variable {P : Program} {w : World} {K : PySem.W.Frag} {mg : Str → Option Value} {base : Heap} {C fI fE : Addr}
theorem Rng.ty {H : Hp} {r : Addr} {ps : List Stc} (T : ClsT K mg C fI fE) (h : Rng C H r ps) : TyX K H (.ref r) (.ref C) := by
  obtain ⟨dx, t, a, _⟩ := h
  exact .base (.ins a T.cl T.cls T.get T.tk T.mro)
theorem ClsT.odd {H : Hp} {y : V} {X : String} (T : ClsT K mg C fI fE) (o : Odd H y X) : PySem.W.kitOne K (.type X) (.ref C) = some false := by
  cases o with
  | non => exact T.kn
  | bl b => exact T.kb
  | int i => exact T.ki
  | str x => exact T.ks
  | lst h => exact T.kl
  | tup h => exact T.kt
abbrev s_Ranges__init : Stmt := inClass (top 2) 0
theorem sc_Ranges__init : FnScope ["self", "parts"] ["self", "parts"] (defScope s_Ranges__init) := ⟨rfl, rfl, rfl, by decide +kernel, rfl, by decide +kernel, by decide +kernel⟩
def sp_init (C : Addr) : Sp := fun vs H Q _ => ∃ x dx t, vs = [.ref x, .ref t] ∧ H x = some (.ins C dx []) ∧ Q .non (upd H x (.ins C dx [("parts", .ref t)]))
theorem ok_init {fd : FuncData} (F : Fun K "__init__" "Ranges.__init__" s_Ranges__init fI fd) (T : ClsT K mg C fI fE) : FnOk P w K mg base CX0 1 fI fd ["self", "parts"] (sp_init C) := by
  refine F.ok sc_Ranges__init (fun vs H Q E h => ?_) (fun cdv A outer s H vs Q E hr h => ?_)
  · obtain ⟨x, dx, t, rfl, _⟩ := h
    rfl
  · obtain ⟨x, dx, t, rfl, hx, q⟩ := h
    refine ⟨_, (pss_one (ps_fld (pv 0) (pv 1) rfl)), ?_⟩
    exact ⟨_, rfl, _, rfl, x, C, dx, [], rfl, hx, T.cl, T.nP, (by show 0 < 1000; decide), q⟩
/-- the promise of __init__ where a set is made -/
abbrev spI (C : Addr) : Sp := fun vs H Q E => sp_init C (vs ++ []) H Q E
theorem mk_rng {H : Hp} {t : Addr} {ps : List Stc} {Q : VK} (hp : PartsT H t ps) (hc : Canon ps) (q : ∀ r H', Same H H' → Rng C H' r ps → Q (.ref r) H') :
    ∀ x dx, H x = none → H dx = none → dx ≠ x → spI C (V.ref x :: [.ref t]) (upd (upd H dx (.own x)) x (.ins C dx [])) (fun v H2 => v = .non ∧ Q (.ref x) H2) E0 := by
  intro x dx hx hdx hne
  refine ⟨x, dx, t, rfl, upd_same, rfl, ?_⟩
  have sm : Same H (upd (upd (upd H dx (.own x)) x (.ins C dx [])) x (.ins C dx [("parts", .ref t)])) := fun b o e => by
    rw [upd_ne (ne_of_none e hx), upd_ne (ne_of_none e hx), upd_ne (ne_of_none e hdx)]
    exact e
  exact q x _ sm ⟨dx, t, upd_same, hp.up sm, hc⟩
theorem canon_nil : Canon [] := ⟨fun s hs => by simp at hs, .nil⟩
theorem canon_one {s : Stc} (h : NE s) : Canon [s] := ⟨fun x hx => by rw [List.mem_singleton.mp hx]; exact h, List.pairwise_singleton ..⟩
/-- «a new set with the integers that g tells» -/
abbrev NewR (C : Addr) (H : Hp) (Q : VK) (n : Nat) (g : Int → Bool) : Prop := ∀ r H' ps, Same H H' → Rng C H' r ps → (∀ k, hasL ps k = g k) → ps.length ≤ n → Q (.ref r) H'
abbrev s_Ranges_between : Stmt := inClass (top 2) 2
theorem sc_Ranges_between : FnScope ["cls", "low", "high"] ["cls", "low", "high"] (defScope s_Ranges_between) := ⟨rfl, rfl, rfl, by decide +kernel, rfl, by decide +kernel, by decide +kernel⟩
def sp_between (C : Addr) : Sp := fun vs H Q _ => ∃ lo hi, vs = [.ref C, ov lo, ov hi] ∧ NewR C H Q 1 (has1 (lo, hi))
theorem ok_between {f : Addr} {fd fdI : FuncData} (F : Fun K "between" "Ranges.between" s_Ranges_between f fd) (FI : Fun K "__init__" "Ranges.__init__" s_Ranges__init fI fdI) (B_init : Binds K fdI ["self", "parts"] []) (T : ClsT K mg C fI fE) :
    FnOk P w K mg base CX0 3 f fd ["cls", "low", "high"] (sp_between C) := by
  have RI : FnR P w K mg base CX0 1 fI (spI C) := FnOk.raw (ok_init FI T) B_init .nil
  have M := T.M
  refine F.ok sc_Ranges_between (fun vs H Q E h => ?_) (fun cdv A outer s H vs Q E hr h => ?_)
  · obtain ⟨lo, hi, rfl, _⟩ := h
    rfl
  · obtain ⟨lo, hi, rfl, q⟩ := h
    refine ⟨_, (pss_cons (ps_if (PW.pt (pw_and (pt_cmpR op_notN (pv 1) pe_non (nomark _)) (pw_and (pt_cmpR op_notN (pv 2) pe_non (nomark _)) (pw_and1 (pt_cmpR op_gt (pv 1) (pv 2) (nomark _))))))
 (pss_one (ps_ret (pe_makeL (i := 0) M RI (hr.mono (by decide)) rfl (Or.inl rfl) pass0 (pa_cons (pe_tup pa_nil) pa_nil))))
 pss_nil)
 (pss_one (ps_ret (pe_makeL (i := 0) M RI (hr.mono (by decide)) rfl (Or.inl rfl) pass0 (pa_cons (pe_tup (pa_cons (pe_tup (pa_cons (pv 1) (pa_cons (pv 2) pa_nil))) pa_nil)) pa_nil))))), ?_⟩
    have full : NE (lo, hi) → tRet (tMakeL 0 C (spI C) E0 (tCons (tTup (tCons (tTup (tCons (tVar 1) (tCons (tVar 2) tNil))) tNil)) tNil)) { nx := fun _ H' => Q .non H', rt := Q } [some (.ref C), some (ov lo), some (ov hi)] H := by
      intro hn
      walk_at "rd"
      refine ⟨rfl, ?_⟩
      unfold StX.tMakeR
      walk_at "rd"
      refine ⟨size_of (Nat.le_of_ble_eq_true rfl), fun p hp => ?_⟩
      obtain ⟨H1, e1, s1, h1⟩ := new_heap (o := .tup [ov lo, ov hi]) hp
      rw [e1]
      walk_at "rd"
      refine ⟨size_of (Nat.le_of_ble_eq_true rfl), fun p' hp' => ?_⟩
      obtain ⟨H2, e2, s2, h2⟩ := new_heap (o := .tup [.ref p]) hp'
      rw [e2]
      walk_at "rd"
      refine mk_rng (ps := [(lo, hi)]) ⟨_, h2, .cons ⟨p, rfl, s2 _ _ h1⟩ .nil⟩ (canon_one hn) fun r H' s3 hr => ?_
      exact q r H' _ (fun b o z => s3 _ _ (s2 _ _ (s1 _ _ z))) hr (fun k => hasL_one _ _) (Nat.le_refl _)
    walk_at "rd"
    cases lo with
    | none =>
      refine ite_nd (fun h => absurd rfl h) fun _ => iteF ?_
      walk_at "rd"
      exact full (fun l h e => nomatch e)
    | some l =>
      refine ite_nd (fun _ => ?_) (fun h => nomatch h)
      walk_at "rd"
      cases hi with
      | none =>
        refine ite_nd (fun h => absurd rfl h) fun _ => iteF ?_
        walk_at "rd"
        exact full (fun l h _ e => nomatch e)
      | some h =>
        refine ite_nd (fun _ => ?_) (fun h => nomatch h)
        walk_at "rd"
        refine ite_d (fun hlt => ?_) (fun hge => ?_)
        · walk_at "rd"
          refine ⟨rfl, ?_⟩
          unfold StX.tMakeR
          walk_at "rd"
          refine ⟨Nat.zero_le _, fun p hp => ?_⟩
          obtain ⟨H1, e1, s1, h1⟩ := new_heap (o := .tup []) hp
          rw [e1]
          walk_at "rd"
          refine mk_rng (ps := []) ⟨_, h1, .nil⟩ canon_nil fun r H' s3 hr => ?_
          refine q r H' _ (fun b o z => s3 _ _ (s1 _ _ z)) hr (fun k => ?_) (Nat.zero_le _)
          rw [hasL_nil]
          simp only [has1]
          rw [eq_comm, Bool.and_eq_false_iff, decide_eq_false_iff_not, decide_eq_false_iff_not]
          omega
        · walk_at "rd"
          exact full (fun a b e1 e2 => by cases e1; cases e2; omega)
abbrev s_Ranges_full : Stmt := inClass (top 2) 3
theorem sc_Ranges_full : FnScope ["cls"] ["cls"] (defScope s_Ranges_full) := ⟨rfl, rfl, rfl, by decide +kernel, rfl, by decide +kernel, by decide +kernel⟩
def sp_full (C : Addr) : Sp := fun vs H Q _ => vs = [.ref C] ∧ ∀ r H', Same H H' → Rng C H' r [(none, none)] → Q (.ref r) H'
theorem ok_full {f : Addr} {fd fdI : FuncData} (F : Fun K "full" "Ranges.full" s_Ranges_full f fd) (FI : Fun K "__init__" "Ranges.__init__" s_Ranges__init fI fdI) (B_init : Binds K fdI ["self", "parts"] []) (T : ClsT K mg C fI fE) :
    FnOk P w K mg base CX0 3 f fd ["cls"] (sp_full C) := by
  have RI : FnR P w K mg base CX0 1 fI (spI C) := FnOk.raw (ok_init FI T) B_init .nil
  have M := T.M
  refine F.ok sc_Ranges_full (fun vs H Q E h => ?_) (fun cdv A outer s H vs Q E hr h => ?_)
  · obtain ⟨rfl, _⟩ := h
    rfl
  · obtain ⟨rfl, q⟩ := h
    refine ⟨_, (pss_one (ps_ret (pe_makeL (i := 0) M RI (hr.mono (by decide)) rfl (Or.inl rfl) pass0 (pa_cons (pe_tup (pa_cons (pe_tup (pa_cons pe_non (pa_cons pe_non pa_nil))) pa_nil)) pa_nil)))), ?_⟩
    walk_at "rd"
    refine ⟨rfl, ?_⟩
    unfold StX.tMakeR
    walk_at "rd"
    refine ⟨size_of (Nat.le_of_ble_eq_true rfl), fun p hp => ?_⟩
    obtain ⟨H1, e1, s1, h1⟩ := new_heap (o := .tup [.non, .non]) hp
    rw [e1]
    walk_at "rd"
    refine ⟨size_of (Nat.le_of_ble_eq_true rfl), fun p' hp' => ?_⟩
    obtain ⟨H2, e2, s2, h2⟩ := new_heap (o := .tup [.ref p]) hp'
    rw [e2]
    walk_at "rd"
    refine mk_rng (ps := [(none, none)]) ⟨_, h2, .cons ⟨p, rfl, s2 _ _ h1⟩ .nil⟩ (canon_one fun l h e => nomatch e) fun r H' s3 hr => ?_
    exact q r H' (fun b o z => s3 _ _ (s2 _ _ (s1 _ _ z))) hr
abbrev s_Ranges_empty : Stmt := inClass (top 2) 4
theorem sc_Ranges_empty : FnScope ["cls"] ["cls"] (defScope s_Ranges_empty) := ⟨rfl, rfl, rfl, by decide +kernel, rfl, by decide +kernel, by decide +kernel⟩
def sp_empty (C : Addr) : Sp := fun vs H Q _ => vs = [.ref C] ∧ ∀ r H', Same H H' → Rng C H' r [] → Q (.ref r) H'
theorem ok_empty {f : Addr} {fd fdI : FuncData} (F : Fun K "empty" "Ranges.empty" s_Ranges_empty f fd) (FI : Fun K "__init__" "Ranges.__init__" s_Ranges__init fI fdI) (B_init : Binds K fdI ["self", "parts"] []) (T : ClsT K mg C fI fE) :
    FnOk P w K mg base CX0 3 f fd ["cls"] (sp_empty C) := by
  have RI : FnR P w K mg base CX0 1 fI (spI C) := FnOk.raw (ok_init FI T) B_init .nil
  have M := T.M
  refine F.ok sc_Ranges_empty (fun vs H Q E h => ?_) (fun cdv A outer s H vs Q E hr h => ?_)
  · obtain ⟨rfl, _⟩ := h
    rfl
  · obtain ⟨rfl, q⟩ := h
    refine ⟨_, (pss_one (ps_ret (pe_makeL (i := 0) M RI (hr.mono (by decide)) rfl (Or.inl rfl) pass0 (pa_cons (pe_tup pa_nil) pa_nil)))), ?_⟩
    walk_at "rd"
    refine ⟨rfl, ?_⟩
    unfold StX.tMakeR
    walk_at "rd"
    refine ⟨Nat.zero_le _, fun p hp => ?_⟩
    obtain ⟨H1, e1, s1, h1⟩ := new_heap (o := .tup []) hp
    rw [e1]
    walk_at "rd"
    refine mk_rng (ps := []) ⟨_, h1, .nil⟩ canon_nil fun r H' s3 hr => ?_
    exact q r H' (fun b o z => s3 _ _ (s1 _ _ z)) hr
/-! ### a | b -/
abbrev s_Ranges__or : Stmt := inClass (top 2) 5
theorem sc_Ranges__or : FnScope ["self", "other"] ["self", "other"] (defScope s_Ranges__or) := ⟨rfl, rfl, rfl, by decide +kernel, rfl, by decide +kernel, by decide +kernel⟩
def sp_or (C : Addr) : Sp := fun vs H Q _ => ∃ a b ps qs, vs = [.ref a, .ref b] ∧ Rng C H a ps ∧ Rng C H b qs ∧ ps.length + qs.length ≤ 1000 ∧ NewR C H Q (ps.length + qs.length) fun k => hasL ps k || hasL qs k
theorem tups_append {H : Hp} {vs ws : List V} {ps qs : List Stc} (h : Tups H vs ps) (h' : Tups H ws qs) : Tups H (vs ++ ws) (ps ++ qs) := by
  induction h with
  | nil => exact h'
  | cons r t ih => exact .cons r ih
theorem lk_parts {t : Addr} : ([("parts", V.ref t)] : List (Str × V)).lookup ("parts" : Str) = some (V.ref t) := by
  show (match (("parts" : Str) == "parts") with | true => some (V.ref t) | false => none) = some (V.ref t)
  rw [beq_self_eq_true]
theorem ok_or {f fJ : Addr} {fd fdI fdJ : FuncData} (F : Fun K "__or__" "Ranges.__or__" s_Ranges__or f fd) (FI : Fun K "__init__" "Ranges.__init__" s_Ranges__init fI fdI) (B_init : Binds K fdI ["self", "parts"] []) (T : ClsT K mg C fI fE)
    (F_joined : Fun K "joined" "joined" s_joined fJ fdJ) (B_joined : Binds K fdJ ["stretches"] []) (g_joined : mg "joined" = some (.ref fJ)) (G_joined : FnOk P w K mg base CX0 4 fJ fdJ ["stretches"] (sp_joined K)) :
    FnOk P w K mg base CX0 5 f fd ["self", "other"] (sp_or C) := by
  have RI : FnR P w K mg base CX0 1 fI (spI C) := FnOk.raw (ok_init FI T) B_init .nil
  have M := T.M
  have g_C := T.g_C
  refine F.ok sc_Ranges__or (fun vs H Q E h => ?_) (fun cdv A outer s H vs Q E hr h => ?_)
  · obtain ⟨a, b, ps, qs, rfl, _⟩ := h
    rfl
  · obtain ⟨a, b, ps, qs, rfl, ⟨dx, t, ha, ⟨vs, ht, tu⟩, ca⟩, ⟨dy, u, hb, ⟨ws, hu, tw⟩, cb⟩, hz, q⟩ := h
    refine ⟨_, (pss_one (ps_ret (StX.pe_makeR M RI (hr.mono (by decide)) rfl g_C pass0 (pa_cons (pe_call G_joined (hr.mono (by decide)) rfl g_joined F_joined.kp B_joined .nil pass0 (pa_cons (pe_op op_catA (pe_fld (pv 0) rfl) (pe_fld (pv 1) rfl)) pa_nil)) pa_nil)))), ?_⟩
    have l1 := tups_len tu
    have l2 := tups_len tw
    have hne : ∀ s, s ∈ ps ++ qs → NE s := fun s hs => (List.mem_append.mp hs).elim (ca.ne s) (cb.ne s)
    have fin : ∀ (p : Addr) (H1 : Hp), Same H H1 → H1 p = some (.tup (vs ++ ws)) → sp_joined K [.ref p] H1 (fun v H2 => ∀ x dx, H2 x = none → H2 dx = none → dx ≠ x → spI C (V.ref x :: [v]) (upd (upd H2 dx (.own x)) x (.ins C dx [])) (fun v H2 => v = .non ∧ Q (.ref x) H2) E0) E0 := by
      intro p H1 s1 hp
      refine ⟨p, vs ++ ws, ps ++ qs, rfl, .inr (SqT.of hp), tups_append (tu.up s1) (tw.up s1), by rw [List.length_append]; exact hz, hne, fun r H2 rs s2 hr hc hm hl => ?_⟩
      refine mk_rng hr hc fun x H3 s3 hx => ?_
      exact q x H3 rs (fun b o z => s3 _ _ (s2 _ _ (s1 _ _ z))) hx (fun k => by rw [hm k, hasL_append]) (by rw [List.length_append] at hl; exact hl)
    unfold StX.tMakeR
    walk_at "rd"
    refine ⟨_, rfl, a, C, dx, _, _, rfl, ha, T.cl, T.nP, lk_parts, ?_⟩
    refine ⟨_, rfl, b, C, dy, _, _, rfl, hb, T.cl, T.nP, lk_parts, ?_⟩
    refine ⟨t, u, vs, ws, rfl, rfl, SqT.of ht, SqT.of hu, size_of (by omega), fun e => ?_, fun _ e => ?_, fun _ _ p hp => ?_⟩
    · subst e
      exact fin u H (Same.refl H) hu
    · subst e
      exact fin t H (Same.refl H) (by rw [List.append_nil]; exact ht)
    · obtain ⟨H1, e1, s1, h1⟩ := new_heap (o := .tup (vs ++ ws)) hp
      rw [e1]
      exact fin p H1 s1 h1

/-! ### Ranges.of(*numbers) -/
def singles (ns : List Int) : List Stc := ns.map fun n => (some n, some n)
abbrev s_Ranges_of : Stmt := inClass (top 2) 1
theorem sc_Ranges_of : FnScope ["cls", "numbers", "number"] ["cls", "numbers"] (defScope s_Ranges_of) := ⟨rfl, rfl, rfl, by decide +kernel, rfl, by decide +kernel, by decide +kernel⟩
def sp_ofI (C : Addr) : Sp := fun vs H Q _ => ∃ t ns, vs = [.ref C, .ref t] ∧ H t = some (.tup (ns.map V.int)) ∧ ns.length ≤ 1000 ∧ NewR C H Q ns.length (hasL (singles ns))
/-- as it is called -/
def sp_of (C : Addr) : Sp := fun vs H Q _ => ∃ ns : List Int, vs = .ref C :: ns.map V.int ∧ ns.length ≤ 1000 ∧ NewR C H Q ns.length (hasL (singles ns))
structure OInv (H0 : Hp) (t D : Addr) (ns : List Int) (i : Nat) (H : Hp) : Prop where
  ex : ∃ vs, Same H0 H ∧ H D = some (.lst vs) ∧ Tups H vs (singles (ns.take i))
theorem singles_ne (ns : List Int) : ∀ s, s ∈ singles ns → NE s := fun s hs => by
  obtain ⟨n, _, rfl⟩ := List.mem_map.mp hs
  intro l h e1 e2
  cases e1
  cases e2
  exact Int.le_refl _
theorem ok_of {f fJ : Addr} {fd fdI fdJ : FuncData} (F : Fun K "of" "Ranges.of" s_Ranges_of f fd) (FI : Fun K "__init__" "Ranges.__init__" s_Ranges__init fI fdI) (B_init : Binds K fdI ["self", "parts"] []) (T : ClsT K mg C fI fE)
    (F_joined : Fun K "joined" "joined" s_joined fJ fdJ) (B_joined : Binds K fdJ ["stretches"] []) (g_joined : mg "joined" = some (.ref fJ)) (G_joined : FnOk P w K mg base CX0 4 fJ fdJ ["stretches"] (sp_joined K)) :
    FnR P w K mg base CX0 5 f (sp_of C) := by
  have RI : FnR P w K mg base CX0 1 fI (spI C) := FnOk.raw (ok_init FI T) B_init .nil
  have M := T.M
  refine FnR.imp (F.okStar (ps := ["cls"]) (pv := "numbers") (sp := sp_ofI C) sc_Ranges_of (fun kV doc pm an cdv ct => StX.bind_star1 (B := fun us => bindArgs (PySem.W.fnOf "of" "Ranges.of" (defArgs s_Ranges_of) (defBody s_Ranges_of) (defScope s_Ranges_of) .none kV doc pm an cdv ct) ⟨us, []⟩) (fun _ => rfl) fun _ _ _ => rfl) (fun cdv A outer s H vs Q E hr h => ?_)) ?_
  · obtain ⟨t, ns, rfl, ht, hz, q⟩ := h
    refine ⟨_, (pss_one (ps_ret (pe_makeL (i := 0) M RI (hr.mono (by decide)) rfl (Or.inl rfl) pass0 (pa_cons (pe_call G_joined (hr.mono (by decide)) rfl g_joined F_joined.kp B_joined .nil pass0 (pa_cons (pe_lc (own := [("number", 2)]) (g := gName 2) (tt := tYes) rfl sc_Ranges_of.nd (pi_tup (pv 1)) (blkOk_by (own := [("number", 2)]) (N := ["cls", "numbers", "number"]) (sc := defScope s_Ranges_of) (by decide +kernel)) (fun _ _ _ _ _ => pg_name (i := 2) sc_Ranges_of.nd rfl (Or.inl rfl)) (fun _ _ _ _ _ => pts_nil) (fun _ _ _ _ _ => (pe_tup (pa_cons (pv 2) (pa_cons (pv 2) pa_nil))))) pa_nil)) pa_nil)))), ?_⟩
    walk_at "rd"
    refine ⟨rfl, ?_⟩
    unfold StX.tMakeR
    walk_at "rd"
    refine ⟨_, rfl, t, rfl, ⟨_, SqT.of ht⟩, fun D hD => ?_⟩
    obtain ⟨H1, e1, s1, h1⟩ := new_heap (o := .lst []) hD
    refine lc_tup (K := K) (a := t) (xs := ns.map V.int) (OInv H t D ns) ⟨[], by rw [e1]; exact s1, by rw [e1]; exact h1, .nil⟩ ?_ ?_ ?_
    · rintro i H' _ ⟨vs, sm, _⟩
      exact SqT.of (sm _ _ ht)
    · rintro i x H' hx ⟨vs, sm, hd, tu⟩
      have hi : i < ns.length := by
        have := (List.getElem?_eq_some_iff.mp hx).1
        simpa using this
      have ex : x = .int ns[i] := by
        rw [List.getElem?_map, List.getElem?_eq_getElem hi] at hx
        exact (Option.some.inj hx).symm
      subst ex
      walk_at "rd"
      refine ⟨rfl, i_yes (iteT ?_)⟩
      walk_at "rd"
      refine ⟨size_of (Nat.le_of_ble_eq_true rfl), fun p hp => ?_⟩
      obtain ⟨H2, e2, s2, h2⟩ := new_heap (o := .tup [.int ns[i], .int ns[i]]) hp
      rw [e2]
      have hl := tups_len tu
      have hl2 : vs.length ≤ 100000 := by
        rw [hl]
        simp only [singles, List.length_map, List.length_take]
        omega
      refine ⟨vs, s2 _ _ hd, size_lt hl2, ⟨vs ++ [.ref p], Same.mut (fun b o z => s2 _ _ (sm _ _ z)) hD, upd_same, ?_⟩⟩
      have e : singles (ns.take (i + 1)) = singles (ns.take i) ++ [(some ns[i], some ns[i])] := by
        simp only [singles, List.take_succ_eq_append_getElem hi, List.map_append, List.map_cons, List.map_nil]
      rw [e]
      exact Tups.mut (tups_snoc (tu.up s2) ⟨p, rfl, h2⟩) (s2 _ _ hd)
    · rintro H' ⟨vs, sm, hd, tu⟩
      rw [List.length_map, List.take_length] at tu
      refine ⟨D, vs, singles ns, rfl, .inl (SqL.of hd), tu, by simpa [singles] using hz, singles_ne ns, fun p H2 ps s2 hp hc hm hl => ?_⟩
      refine mk_rng hp hc fun r H3 s3 hr => ?_
      exact q r H3 ps (fun b o z => s3 _ _ (s2 _ _ (sm _ _ z))) hr hm (by simpa [singles] using hl)
  · rintro vs H Q E ⟨ns, rfl, hz, q⟩
    refine ⟨[.ref C], ns.map V.int, rfl, rfl, size_of (by rw [List.length_map]; omega), fun p hp => ?_⟩
    obtain ⟨H1, e1, s1, h1⟩ := new_heap (o := .tup (ns.map V.int)) hp
    rw [e1]
    exact ⟨p, ns, rfl, h1, hz, fun r H' ps sm hr hm hl => q r H' ps (fun b o z => sm _ _ (s1 _ _ z)) hr hm hl⟩
/-! ### ==, in, bool -/
abbrev s_Ranges__eq : Stmt := inClass (top 2) 8
theorem sc_Ranges__eq : FnScope ["self", "other"] ["self", "other"] (defScope s_Ranges__eq) := ⟨rfl, rfl, rfl, by decide +kernel, rfl, by decide +kernel, by decide +kernel⟩
def sp_eq (C : Addr) : Sp := fun vs H Q _ => ∃ a y ps k, vs = [.ref a, y] ∧ Rng C H a ps ∧ ((∃ b qs, y = .ref b ∧ Rng C H b qs ∧ k = decide (ps = qs)) ∨ (∃ T, Odd H y T ∧ k = false)) ∧ Q (.bl k) H
theorem ok_eq {fd : FuncData} (F : Fun K "__eq__" "Ranges.__eq__" s_Ranges__eq fE fd) (T : ClsT K mg C fI fE) (z_isinstance : mg "isinstance" = none) : FnOk P w K mg base CX0 1 fE fd ["self", "other"] (sp_eq C) := by
  have g_C := T.g_C
  refine F.ok sc_Ranges__eq (fun vs H Q E h => ?_) (fun cdv A outer s H vs Q E hr h => ?_)
  · obtain ⟨a, y, ps, k, rfl, _⟩ := h
    rfl
  · obtain ⟨a, y, ps, k, rfl, ra, h, q⟩ := h
    refine ⟨_, (pss_one (ps_ret (pe_and (pe_callB call_isi (by rfl) z_isinstance (by decide +kernel) (pa_cons (pv 1) (pa_cons (pe_glob rfl g_C (relR _)) pa_nil))) (pe_one (pe_cmpR (op_eqD hr.units) (pe_fld (pv 0) rfl) (pe_fld (pv 1) rfl) (nomark _)))))), ?_⟩
    walk_at "rd"
    rcases h with ⟨b, qs, rfl, rb, rfl⟩ | ⟨X, o, rfl⟩
    · refine ⟨_, _, _, _, true, rfl, .own C, rb.ty T, T.kit, true, rfl, iteT ?_⟩
      obtain ⟨dx, t, ha, pa, _⟩ := ra
      obtain ⟨dy, u, hb, pb, _⟩ := rb
      walk_at "rd"
      refine ⟨_, rfl, a, C, dx, _, _, rfl, ha, T.cl, T.nP, lk_parts, ?_⟩
      refine ⟨_, rfl, b, C, dy, _, _, rfl, hb, T.cl, T.nP, lk_parts, ?_⟩
      refine ⟨psD ps, psD qs, dp_parts pa, dp_parts pb, shaped_ps ps, shaped_ps qs, ?_⟩
      rw [eqv_psD]
      exact q
    · exact ⟨_, _, _, _, false, rfl, .own C, o.ty, T.odd o, false, rfl, iteF q⟩
abbrev s_Ranges__contains : Stmt := inClass (top 2) 9
theorem sc_Ranges__contains : FnScope ["self", "value"] ["self", "value"] (defScope s_Ranges__contains) := ⟨rfl, rfl, rfl, by decide +kernel, rfl, by decide +kernel, by decide +kernel⟩
/-- any other value, by its type -/
def Other (K : PySem.W.Frag) (H : Hp) (y : V) : Prop := ∃ t, TyX K H y t ∧ (PySem.W.kitOne K t (.type "int") = some false ∨ (PySem.W.kitOne K t (.type "int") = some true ∧ PySem.W.kitOne K t (.type "bool") = some true))
def sp_contains (K : PySem.W.Frag) (C : Addr) : Sp := fun vs H Q _ => ∃ a y ps k, vs = [.ref a, y] ∧ Rng C H a ps ∧ ((∃ n, y = .int n ∧ k = hasL ps n) ∨ (Other K H y ∧ k = false)) ∧ Q (.bl k) H
theorem ok_contains {f fN : Addr} {fd fdN : FuncData} (F : Fun K "__contains__" "Ranges.__contains__" s_Ranges__contains f fd) (T : ClsT K mg C fI fE) (z_isinstance : mg "isinstance" = none) (z_int : mg "int" = none) (z_bool : mg "bool" = none) (z_len : mg "len" = none)
    (F_in_parts : Fun K "in_parts" "in_parts" s_in_parts fN fdN) (B_in_parts : Binds K fdN ["parts", "number"] []) (g_in_parts : mg "in_parts" = some (.ref fN)) : FnOk P w K mg base CX0 2 f fd ["self", "value"] (sp_contains K C) := by
  have G_in_parts : FnOk P w K mg base CX0 1 fN fdN ["parts", "number"] sp_in_parts := ok_in_parts F_in_parts z_len
  refine F.ok sc_Ranges__contains (fun vs H Q E h => ?_) (fun cdv A outer s H vs Q E hr h => ?_)
  · obtain ⟨a, y, ps, k, rfl, _⟩ := h
    rfl
  · obtain ⟨a, y, ps, k, rfl, ra, h, q⟩ := h
    refine ⟨_, (pss_one (ps_ret (pe_and (pe_callB call_isi (by rfl) z_isinstance (by decide +kernel) (pa_cons (pv 1) (pa_cons (pe_bltn (v := .ty "int") (u := .type "int") (by rfl) z_int (by decide +kernel) rfl) pa_nil))) (pe_and (pe_not (pe_callB call_isi (by rfl) z_isinstance (by decide +kernel) (pa_cons (pv 1) (pa_cons (pe_bltn (v := .ty "bool") (u := .type "bool") (by rfl) z_bool (by decide +kernel) rfl) pa_nil)))) (pe_one (pe_call G_in_parts (hr.mono (by decide)) rfl g_in_parts F_in_parts.kp B_in_parts .nil pass0 (pa_cons (pe_fld (pv 0) rfl) (pa_cons (pv 1) pa_nil)))))))), ?_⟩
    walk_at "rd"
    rcases h with ⟨n, rfl, rfl⟩ | ⟨⟨t, ty, ho⟩, rfl⟩
    · refine ⟨_, _, _, _, true, rfl, .ty "int", .base (.int n), kit_ty (by decide +kernel), true, rfl, iteT ?_⟩
      walk_at "rd"
      refine ⟨_, _, _, _, false, rfl, .ty "bool", .base (.int n), kit_ty (by decide +kernel), false, rfl, ?_⟩
      refine ⟨true, rfl, iteT ?_⟩
      obtain ⟨dx, t, ha, pa, ca⟩ := ra
      walk_at "rd"
      refine ⟨_, rfl, a, C, dx, _, _, rfl, ha, T.cl, T.nP, lk_parts, ?_⟩
      walk_at "rd"
      exact ⟨t, ps, n, rfl, pa, ca, q⟩
    · rcases ho with h1 | ⟨h1, h2⟩
      · exact ⟨_, _, _, _, false, rfl, .ty "int", ty, h1, false, rfl, iteF q⟩
      · refine ⟨_, _, _, _, true, rfl, .ty "int", ty, h1, true, rfl, iteT ?_⟩
        walk_at "rd"
        refine ⟨_, _, _, _, true, rfl, .ty "bool", ty, h2, true, rfl, ?_⟩
        exact ⟨false, rfl, iteF q⟩
abbrev s_Ranges__bool : Stmt := inClass (top 2) 10
theorem sc_Ranges__bool : FnScope ["self"] ["self"] (defScope s_Ranges__bool) := ⟨rfl, rfl, rfl, by decide +kernel, rfl, by decide +kernel, by decide +kernel⟩
def sp_bool (C : Addr) : Sp := fun vs H Q _ => ∃ a ps, vs = [.ref a] ∧ Rng C H a ps ∧ Q (.bl (!ps.isEmpty)) H
theorem ok_bool {f : Addr} {fd : FuncData} (F : Fun K "__bool__" "Ranges.__bool__" s_Ranges__bool f fd) (T : ClsT K mg C fI fE) (z_bool : mg "bool" = none) : FnOk P w K mg base CX0 1 f fd ["self"] (sp_bool C) := by
  refine F.ok sc_Ranges__bool (fun vs H Q E h => ?_) (fun cdv A outer s H vs Q E hr h => ?_)
  · obtain ⟨a, ps, rfl, _⟩ := h
    rfl
  · obtain ⟨a, ps, rfl, ⟨dx, t, ha, ⟨vs, ht, tu⟩, _⟩, q⟩ := h
    refine ⟨_, (pss_one (ps_ret (pe_callTy call_boolT (by rfl) z_bool (by decide +kernel) (pa_cons (pe_fld (pv 0) rfl) pa_nil)))), ?_⟩
    walk_at "rd"
    refine ⟨_, rfl, a, C, dx, _, _, rfl, ha, T.cl, T.nP, lk_parts, ?_⟩
    walk_at "rd"
    refine ⟨t, vs, rfl, SqT.of ht, ?_⟩
    have e : vs.isEmpty = ps.isEmpty := by
      cases tu <;> rfl
    rw [e]
    exact q
end
end Spk

set_option Elab.async false
set_option linter.all false
set_option maxRecDepth 100000
set_option maxHeartbeats 1000000
namespace Spk
open PySem L2
local macro_rules | `(tactic| walk_at "rd") => `(tactic| repeat (first
  | with_reducible refine i_seq ?_ | with_reducible refine i_asg ?_ | with_reducible refine i_ret ?_ | with_reducible refine i_ifS ?_ | with_reducible refine i_if ?_
  | with_reducible refine i_for ?_ | with_reducible refine i_iL ?_ | with_reducible refine i_iT ?_ | with_reducible refine i_ckw ?_ | with_reducible refine i_cm ?_ | with_reducible refine And.intro (rfl : V.ref _ = V.ref _) ?_ | with_reducible refine i_rng1 ?_ | with_reducible refine i_bm ?_ | with_reducible refine i_bm0 ?_
  | with_reducible refine i_drop ?_ | with_reducible refine i_next ?_
  | with_reducible refine i_var rfl ?_ | with_reducible refine i_c ?_ | with_reducible refine i_op ?_ | with_reducible refine i_un ?_ | with_reducible refine i_name ?_
  | with_reducible refine i_rI0 ?_ | with_reducible refine i_rU ?_ | with_reducible refine i_rEq rfl ?_ | with_reducible refine i_rNe rfl ?_
  | with_reducible refine i_test ?_ | with_reducible refine i_tB ?_ | with_reducible refine i_and ?_ | with_reducible refine i_or ?_ | with_reducible refine i_not ?_
  | with_reducible refine i_andV ?_ | with_reducible refine i_orV ?_ | with_reducible refine i_notV ?_
  | with_reducible refine i_cons ?_ | with_reducible refine i_nil ?_ | with_reducible refine i_cb ?_ | with_reducible refine i_call ?_ | with_reducible refine i_bl ?_
  | with_reducible refine i_tup ?_ | with_reducible refine i_lst ?_ | with_reducible refine i_par ?_ | with_reducible refine i_gcons ?_ | with_reducible refine i_gnil ?_
  | with_reducible refine And.intro (rfl : V.non = V.non) ?_ | with_reducible refine i_ixT (by assumption) rfl ?_ | with_reducible refine i_ixL (by assumption) rfl ?_ | with_reducible refine i_gtup (by assumption) rfl ?_
  | with_reducible refine i_gsub ?_
  | with_reducible refine Or.inl (Exists.intro _ (And.intro (rfl : [V.int _] = [V.int _]) ?_)) | with_reducible refine Exists.intro _ (And.intro (rfl : [V.int _] = [V.int _]) ?_)
  | with_reducible refine Or.inr (Exists.intro _ (And.intro (rfl : [V.bl _] = [V.bl _]) ?_))
  | with_reducible refine Exists.intro _ (Exists.intro _ (And.intro (rfl : [V.int _, V.int _] = [V.int _, V.int _]) ?_))
  | with_reducible refine Exists.intro _ (Exists.intro _ (And.intro (rfl : [V.ref _] = [V.ref _]) (And.intro (Or.inl (SqL.of (by assumption))) ?_)))
  | with_reducible refine i_rI (show (0 : Int) < _ by assumption) ?_ | with_reducible refine i_rI (show (0 : Int) < _ by decide) ?_
  | with_reducible refine i_rI (pow_ok (Nat.le_of_ble_eq_true rfl) (Nat.le_of_ble_eq_true rfl)) ?_
  | with_reducible refine i_rI (cmulL rfl) ?_))
/-! ### the pen: what is drawn from the script -/
def penny : HO → Bool
  | .lst [.ref _, .int _, .int _] => true
  | _ => false
/-- all but a pen is as it was -/
def Keep (H H' : Hp) : Prop := ∀ b o, penny o = false → H b = some o → H' b = some o
theorem Keep.refl (H : Hp) : Keep H H := fun _ _ _ h => h
theorem Keep.trans {H H1 H2 : Hp} (a : Keep H H1) (b : Keep H1 H2) : Keep H H2 := fun c o p h => b c o p (a c o p h)
theorem Same.keep {H H' : Hp} (e : Same H H') : Keep H H' := fun b o _ h => e b o h
def Pen (H : Hp) (p L : Addr) (n : Nat) : Prop := ∃ (ns : List Int) (at_ lg : Int), H p = some (.lst [.ref L, .int at_, .int lg]) ∧ H L = some (.lst (ns.map V.int)) ∧ ns.length ≤ 63 ∧ 0 ≤ at_ ∧ at_ ≤ n ∧ 0 ≤ lg
theorem Pen.up {H H' : Hp} {p L : Addr} {n : Nat} (e : Same H H') (h : Pen H p L n) : Pen H' p L n := by
  obtain ⟨ns, a, l, h1, h2, r⟩ := h
  exact ⟨ns, a, l, e _ _ h1, e _ _ h2, r⟩
theorem Pen.mono {H : Hp} {p L : Addr} {n m : Nat} (h : Pen H p L n) (e : n ≤ m) : Pen H p L m := by
  obtain ⟨ns, a, l, h1, h2, h3, h4, h5, h6⟩ := h
  exact ⟨ns, a, l, h1, h2, h3, h4, by omega, h6⟩
theorem penny_ints (ns : List Int) : penny (.lst (ns.map V.int)) = false := by
  cases ns <;> rfl
/-- a pen is written anew -/
theorem pen_set {H : Hp} {p L : Addr} {ns : List Int} {a l a' l' : Int} {n : Nat} (hp : H p = some (.lst [.ref L, .int a, .int l])) (hL : H L = some (.lst (ns.map V.int))) (h1 : ns.length ≤ 63) (h2 : 0 ≤ a') (h3 : a' ≤ n) (h4 : 0 ≤ l') :
    Keep H (upd H p (.lst [.ref L, .int a', .int l'])) ∧ Pen (upd H p (.lst [.ref L, .int a', .int l'])) p L n := by
  refine ⟨fun b o hb e => ?_, ns, a', l', upd_same, ?_, h1, h2, h3, h4⟩
  · have : b ≠ p := fun z => by
      subst z
      rw [hp] at e
      cases e
      simp [penny] at hb
    rw [upd_ne this]
    exact e
  · have : L ≠ p := fun z => by
      subst z
      rw [hp] at hL
      have := penny_ints ns
      rw [← HO.lst.inj (Option.some.inj hL)] at this
      simp [penny] at this
    rw [upd_ne this]
    exact hL
theorem pen_put {H : Hp} {p L : Addr} {ns : List Int} {a l a' l' : Int} (hp : H p = some (.lst [.ref L, .int a, .int l])) (hL : H L = some (.lst (ns.map V.int))) :
    ∃ H1, upd H p (.lst [.ref L, .int a', .int l']) = H1 ∧ Keep H H1 ∧ H1 p = some (.lst [.ref L, .int a', .int l']) ∧ H1 L = some (.lst (ns.map V.int)) := by
  have : L ≠ p := fun z => by
    subst z
    rw [hp] at hL
    have := penny_ints ns
    rw [← HO.lst.inj (Option.some.inj hL)] at this
    simp [penny] at this
  refine ⟨_, rfl, fun b o hb e => ?_, upd_same, by rw [upd_ne this]; exact hL⟩
  have : b ≠ p := fun z => by
    subst z
    rw [hp] at e
    cases e
    simp [penny] at hb
  rw [upd_ne this]
  exact e
theorem dps_ints {K : PySem.W.Frag} {H : Hp} : ∀ ns : List Int, DpAll K H (ns.map V.int) (ns.map PyData.int)
  | [] => .nil
  | n :: ns => .cons (.int n) (dps_ints ns)
theorem eqv_ints : ∀ ns ms : List Int, PyData.eqvAll (ns.map PyData.int) (ms.map PyData.int) = decide (ns = ms)
  | [], [] => by simp [PyData.eqvAll]
  | [], _ :: _ => by simp [PyData.eqvAll]
  | _ :: _, [] => by simp [PyData.eqvAll]
  | a :: ns, b :: ms => by
    simp only [List.map_cons, PyData.eqvAll, PyData.eqv, eqv_ints ns ms, List.cons.injEq]
    rw [Bool.eq_iff_iff]
    simp
theorem lay_ints : ∀ ns : List Int, PyData.canLayAll0 (ns.map PyData.int) = true
  | [] => by simp [PyData.canLayAll0]
  | n :: ns => by simp [PyData.canLayAll0, PyData.canLay0, lay_ints ns]
theorem dep_ints : ∀ ns : List Int, PyData.depthAll (ns.map PyData.int) ≤ 1
  | [] => by simp [PyData.depthAll]
  | n :: ns => by
    have := dep_ints ns
    simp only [List.map_cons, PyData.depthAll, PyData.depth]
    omega
theorem shaped_ints (ns : List Int) : SeqAt.shaped (.list (ns.map PyData.int)) = true := by
  have h1 := lay_ints ns
  have h2 := dep_ints ns
  have h3 : (PyData.list (ns.map PyData.int)).depth ≤ 2 := by
    simp only [PyData.depth]
    omega
  unfold SeqAt.shaped
  rw [Bool.and_eq_true, decide_eq_true_eq]
  exact ⟨by simpa only [PyData.canLay0] using h1, by omega⟩
theorem mul_bd {a b A B : Int} (h1 : 0 ≤ a) (h2 : a ≤ A) (h3 : 0 ≤ b) (h4 : b ≤ B) : 0 ≤ a * b ∧ a * b ≤ A * B :=
  ⟨Int.mul_nonneg h1 h3, Int.mul_le_mul h2 h4 h3 (Int.le_trans h1 h2)⟩
section
variable {P : Program} {w : World} {K : PySem.W.Frag} {mg : Str → Option Value} {base : Heap}
abbrev s_pen : Stmt := top 10
theorem sc_pen : FnScope ["_law_script"] ["_law_script"] (defScope s_pen) := ⟨rfl, rfl, rfl, by decide +kernel, rfl, by decide +kernel, by decide +kernel⟩
def sp_pen (K : PySem.W.Frag) : Sp := fun vs H Q _ => ∃ a, ∃ ns : List Int, vs = [.ref a] ∧ SqL K H a (ns.map V.int) ∧ ns.length ≤ 63 ∧ ∀ p L H', Same H H' → Pen H' p L 0 → Q (.ref p) H'
theorem cut_ints (ns : List Int) (lo hi : Option Int) : ∃ ns' : List Int, cutV (ns.map V.int) lo hi = ns'.map V.int ∧ ns'.length ≤ ns.length := by
  refine ⟨(ns.drop (HT.sIx (ns.map V.int).length 0 lo)).take (HT.sIx (ns.map V.int).length (ns.map V.int).length hi - HT.sIx (ns.map V.int).length 0 lo), ?_, ?_⟩
  · unfold cutV
    rw [List.map_take, List.map_drop]
  · rw [List.length_take, List.length_drop]
    omega
theorem ok_pen {f : Addr} {fd : FuncData} (F : Fun K "_law_pen" "_law_pen" s_pen f fd) (z_list : mg "list" = none) : FnOk P w K mg base CX0 1 f fd ["_law_script"] (sp_pen K) := by
  refine F.ok sc_pen (fun vs H Q E h => ?_) (fun cdv A outer s H vs Q E hr h => ?_)
  · obtain ⟨a, ns, rfl, _⟩ := h
    rfl
  · obtain ⟨a, ns, rfl, ha, hz, q⟩ := h
    refine ⟨_, (pss_one (ps_ret (pe_lst (pa_cons (pe_callTy call_list_of (by rfl) z_list (by decide +kernel) (pa_cons (pe_slice sl_list (pv 0) po_none (po_some pe_int)) pa_nil)) (pa_cons pe_int (pa_cons pe_int pa_nil)))))), ?_⟩
    walk_at "rd"
    refine ⟨_, rfl, 63, rfl, a, _, rfl, ha, fun p hp => ?_⟩
    obtain ⟨ns', e, hl⟩ := cut_ints ns none (some 63)
    rw [e]
    obtain ⟨H1, e1, s1, h1⟩ := new_heap (o := .lst (ns'.map V.int)) hp
    rw [e1]
    walk_at "rd"
    intro l hl'
    obtain ⟨H2, e2, s2, h2⟩ := new_heap (o := .lst (ns'.map V.int)) hl'
    rw [e2]
    walk_at "rd"
    refine ⟨size_of (Nat.le_of_ble_eq_true rfl), fun r hr => ?_⟩
    obtain ⟨H3, e3, s3, h3⟩ := new_heap (o := .lst [.ref l, .int 0, .int 0]) hr
    rw [e3]
    exact q r l H3 (fun b o z => s3 _ _ (s2 _ _ (s1 _ _ z))) ⟨ns', 0, 0, h3, s3 _ _ h2, by omega, Int.le_refl _, Int.le_refl _, Int.le_refl _⟩
abbrev s_draw : Stmt := top 11
theorem sc_draw : FnScope ["_law_pen_here", "_law_many", "_law_digit", "_law_at", "_law_cell", "_law_large", "_law_mixed"] ["_law_pen_here", "_law_many"] (defScope s_draw) := ⟨rfl, rfl, rfl, by decide +kernel, rfl, by decide +kernel, by decide +kernel⟩
def sp_draw : Sp := fun vs H Q _ => ∃ p L n m, vs = [.ref p, .int m] ∧ Pen H p L n ∧ n ≤ 10000 ∧ 0 < m ∧ m ≤ 1000000000000 ∧ ∀ d H', 0 ≤ d → d < m → Keep H H' → Pen H' p L (n + 1) → Q (.int d) H'
theorem ok_draw {f : Addr} {fd : FuncData} (F : Fun K "_law_draw" "_law_draw" s_draw f fd) (z_int : mg "int" = none) (z_len : mg "len" = none) (z_abs : mg "abs" = none) : FnOk P w K mg base CX0 1 f fd ["_law_pen_here", "_law_many"] sp_draw := by
  refine F.ok sc_draw (fun vs H Q E h => ?_) (fun cdv A outer s H vs Q E hr h => ?_)
  · obtain ⟨p, L, n, m, rfl, _⟩ := h
    rfl
  · obtain ⟨p, L, n, m, rfl, ⟨ns, a, l, hp, hL, hz, a0, an, l0⟩, hn, m0, m1, q⟩ := h
    refine ⟨_, (pss_cons (ps_if (pt_cmpR op_gt (pe_ix ix_list (pv 0) pe_int (fun _ _ => rfl)) pe_int (nomark _))
 (pss_cons (ps_set (i := 2) sc_draw.nd rfl (Or.inl rfl) (pe_op op_mod (pe_callTy call_int1 (by rfl) z_int (by decide +kernel) (pa_cons (pe_ix ix_list (pv 0) pe_int (fun _ _ => rfl)) pa_nil)) (pv 1)))
 (pss_cons (ps_asg (pe_op op_fdivW (pe_ix ix_list (pv 0) pe_int (fun _ _ => rfl)) (pv 1)) (pg_sub (pv 0) pe_int set_list))
 (pss_one (ps_ret (pv 2)))))
 pss_nil)
 (pss_cons (ps_set (i := 3) sc_draw.nd rfl (Or.inl rfl) (pe_ix ix_list (pv 0) pe_int (fun _ _ => rfl)))
 (pss_cons (ps_asg (pe_op op_add (pv 3) pe_int) (pg_sub (pv 0) pe_int set_list))
 (pss_cons (ps_set (i := 4) sc_draw.nd rfl (Or.inl rfl) (pe_op op_add (pe_op op_mul pe_int (pv 3)) pe_int))
 (pss_cons (ps_if (pt_cmpR (op_neD hr.units) (pe_ix ix_list (pv 0) pe_int (fun _ _ => rfl)) (pe_lst pa_nil) (nomark _))
 (pss_one (ps_set (i := 4) sc_draw.nd rfl (Or.inl rfl) (pe_ix ix_list (pe_ix ix_list (pv 0) pe_int (fun _ _ => rfl)) (pe_op op_mod (pe_callTy call_int1 (by rfl) z_int (by decide +kernel) (pa_cons (pv 3) pa_nil)) (pe_callB call_len_seq (by rfl) z_len PySem.boot_len (pa_cons (pe_ix ix_list (pv 0) pe_int (fun _ _ => rfl)) pa_nil))) (fun _ _ => rfl))))
 pss_nil)
 (pss_cons (ps_if (PW.pt (pw_and (pt_cmpR op_lt (pv 3) (pe_callB call_len_seq (by rfl) z_len PySem.boot_len (pa_cons (pe_ix ix_list (pv 0) pe_int (fun _ _ => rfl)) pa_nil)) (nomark _)) (pw_and1 (pt_cmpR op_ge (pe_callB call_abs (by rfl) z_abs (by decide +kernel) (pa_cons (pv 4) pa_nil)) (pe_op op_pow pe_int pe_int) (nomark _)))))
 (pss_cons (ps_set (i := 5) sc_draw.nd rfl (Or.inl rfl) (pe_op op_add (pe_op op_mul pe_int (pe_callB call_abs (by rfl) z_abs (by decide +kernel) (pa_cons (pv 4) pa_nil))) (pe_callTy call_int1 (by rfl) z_int (by decide +kernel) (pa_cons (pe_cmpR op_lt (pv 4) pe_int (nomark _)) pa_nil))))
 (pss_cons (ps_asg (pe_op op_fdivW (pv 5) (pv 1)) (pg_sub (pv 0) pe_int set_list))
 (pss_one (ps_ret (pe_op op_mod (pe_callTy call_int1 (by rfl) z_int (by decide +kernel) (pa_cons (pv 5) pa_nil)) (pv 1))))))
 pss_nil)
 (pss_cons (ps_set (i := 6) sc_draw.nd rfl (Or.inl rfl) (pe_op op_mod (pe_op op_pow (pe_callTy call_int1 (by rfl) z_int (by decide +kernel) (pa_cons (pe_op op_add (pe_op op_add (pe_op op_mod (pe_callTy call_int1 (by rfl) z_int (by decide +kernel) (pa_cons (pv 4) pa_nil)) pe_int) (pe_op op_mul pe_int (pv 3))) pe_int) pa_nil)) pe_int) pe_int))
 (pss_cons (ps_set (i := 6) sc_draw.nd rfl (Or.inl rfl) (pe_op op_mod (pe_op op_pow (pe_callTy call_int1 (by rfl) z_int (by decide +kernel) (pa_cons (pe_op op_add (pe_op op_add (pe_op op_mul (pv 6) (pe_op op_add (pe_op op_mul pe_int (pv 3)) pe_int)) (pe_op op_mul (pe_op op_mul pe_int (pv 3)) (pv 3))) pe_int) pa_nil)) pe_int) pe_int))
 (pss_one (ps_ret (pe_op op_mod (pe_callTy call_int1 (by rfl) z_int (by decide +kernel) (pa_cons (pe_op op_fdivW (pv 6) pe_int) pa_nil)) (pv 1)))))))))))), ?_⟩
    have wd : ∀ i : Int, CDivW i m := fun i => wide_div (b := 64) m0 (by omega) (by decide) (by decide)
    walk_at "rd"
    refine ite_d (fun h => ?_) (fun h => ?_)
    · walk_at "rd"
      refine i_rI (wd _) ?_
      walk_at "rd"
      refine i_setL hp (j := 2) rfl ?_
      walk_at "rd"
      obtain ⟨k, pe⟩ := pen_set (a' := a) (l' := l / m) (n := n + 1) hp hL hz a0 (by omega) (Int.ediv_nonneg l0 (by omega))
      exact q _ _ (Int.emod_nonneg _ (by omega)) (Int.emod_lt_of_pos _ m0) k pe
    · walk_at "rd"
      refine i_setL hp (j := 1) rfl ?_
      obtain ⟨H1, e1, k1, hp1, hL1⟩ := pen_put (a' := a + 1) (l' := l) hp hL
      rw [show ([V.ref L, .int a, .int l].set 1 (.int (a + 1))) = [.ref L, .int (a + 1), .int l] from rfl, e1]
      walk_at "rd"
      refine ⟨Nat.zero_le _, fun r hr => ?_⟩
      obtain ⟨H2, e2, s2, h2⟩ := new_heap (o := .lst []) hr
      rw [e2]
      have hp2 := s2 _ _ hp1
      have hL2 := s2 _ _ hL1
      have k2 : Keep H H2 := k1.trans (Same.keep s2)
      refine ⟨.list (ns.map PyData.int), .list (([] : List Int).map PyData.int), .lst (SqL.of hL2) (dps_ints ns), .lst (SqL.of h2) .nil, shaped_ints ns, shaped_ints [], ?_⟩
      rw [show PyData.eqv (.list (ns.map PyData.int)) (.list (([] : List Int).map PyData.int)) = decide (ns = []) from eqv_ints ns []]
      -- the end of the draw, from the cell on
      have fin : ∀ (l' d : Int), 0 ≤ l' → 0 ≤ d → d < m → Q (.int d) (upd H2 p (.lst [.ref L, .int (a + 1), .int l'])) := fun l' d hl' hd0 hd1 => by
        obtain ⟨k, pe⟩ := pen_set (a' := a + 1) (l' := l') (n := n + 1) hp2 hL2 hz (by omega) (by omega) hl'
        exact q _ _ hd0 hd1 (k2.trans k) pe
      have same : upd H2 p (.lst [.ref L, .int (a + 1), .int l]) = H2 := by
        funext b
        unfold upd
        split
        · rename_i e
          rw [e, hp2]
        · rfl
      have fin0 : ∀ d : Int, 0 ≤ d → d < m → Q (.int d) H2 := fun d h0 h1 => by
        rw [← same]
        exact fin l d l0 h0 h1
      walk_at "rd"
      refine ite_nd (fun hne => ?_) (fun he => ?_)
      · walk_at "rd"
        have hpos : (0 : Int) < ((ns.map V.int).length : Int) := by
          cases ns with
          | nil => exact absurd rfl hne
          | cons x xs => simp
        refine i_rI hpos ?_
        have hlen : ((ns.map V.int).length : Int) = (ns.length : Int) := by rw [List.length_map]
        rw [hlen] at hpos ⊢
        have i0 := Int.emod_nonneg a (b := (ns.length : Int)) (by omega)
        have i1 := Int.emod_lt_of_pos a hpos
        obtain ⟨j, hj⟩ : ∃ j : Nat, a % (ns.length : Int) = (j : Int) := ⟨(a % (ns.length : Int)).toNat, by omega⟩
        rw [hj]
        have hjl : j < ns.length := by omega
        refine i_ixL hL2 (atI_nat (by rw [List.getElem?_map, List.getElem?_eq_getElem hjl]; rfl)) ?_
        generalize ns[j] = c
        walk_at "rd"
        have c0 := Int.emod_nonneg c (b := 2147483549) (by decide)
        have c1 := Int.emod_lt_of_pos c (b := 2147483549) (by decide)
        refine ite_d (fun h1 => ?_) (fun h1 => ?_)
        · walk_at "rd"
          refine ite_d (fun h2 => ?_) (fun h2 => ?_)
          · walk_at "rd"
            refine i_rI (wd _) ?_
            walk_at "rd"
            refine i_setL hp2 (j := 2) rfl ?_
            walk_at "rd"
            refine fin _ _ (Int.ediv_nonneg ?_ (by omega)) (Int.emod_nonneg _ (by omega)) (Int.emod_lt_of_pos _ m0)
            split <;> split <;> omega
          · walk_at "rd"
            refine i_rI ⟨by decide, by decide, by omega⟩ ?_
            walk_at "rd"
            generalize hx : (c % 2147483549 + 51341 * a + 22) ^ (5 : Int).toNat % 2147483579 = x
            have x0 : 0 ≤ x := by rw [← hx]; exact Int.emod_nonneg _ (by decide)
            have x1 : x < 2147483579 := by rw [← hx]; exact Int.emod_lt_of_pos _ (by decide)
            refine i_rI (.inl ⟨by omega, by omega⟩) ?_
            walk_at "rd"
            refine i_rI (.inl ⟨by omega, by omega⟩) ?_
            walk_at "rd"
            have b1 := mul_bd x0 (Int.le_of_lt x1) (b := 2 * a + 33) (B := 20100) (by omega) (by omega)
            have b2 := mul_bd (a := 70001 * a) (A := 70001 * 10001) (by omega) (by omega) a0 (B := 10001) (by omega)
            refine i_rI ⟨by decide, by decide, by omega⟩ ?_
            walk_at "rd"
            refine i_rI (wide_div (b := 8) (by decide) (by decide) (by decide) (by decide)) ?_
            walk_at "rd"
            exact fin0 _ (Int.emod_nonneg _ (by omega)) (Int.emod_lt_of_pos _ m0)
        · refine iteF ?_
          walk_at "rd"
          refine i_rI ⟨by decide, by decide, by omega⟩ ?_
          walk_at "rd"
          generalize hx : (c % 2147483549 + 51341 * a + 22) ^ (5 : Int).toNat % 2147483579 = x
          have x0 : 0 ≤ x := by rw [← hx]; exact Int.emod_nonneg _ (by decide)
          have x1 : x < 2147483579 := by rw [← hx]; exact Int.emod_lt_of_pos _ (by decide)
          refine i_rI (.inl ⟨by omega, by omega⟩) ?_
          walk_at "rd"
          refine i_rI (.inl ⟨by omega, by omega⟩) ?_
          walk_at "rd"
          have b1 := mul_bd x0 (Int.le_of_lt x1) (b := 2 * a + 33) (B := 20100) (by omega) (by omega)
          have b2 := mul_bd (a := 70001 * a) (A := 70001 * 10001) (by omega) (by omega) a0 (B := 10001) (by omega)
          refine i_rI ⟨by decide, by decide, by omega⟩ ?_
          walk_at "rd"
          refine i_rI (wide_div (b := 8) (by decide) (by decide) (by decide) (by decide)) ?_
          walk_at "rd"
          exact fin0 _ (Int.emod_nonneg _ (by omega)) (Int.emod_lt_of_pos _ m0)
      · subst he
        walk_at "rd"
        generalize 41113 * a + 8 = c
        have c0 := Int.emod_nonneg c (b := 2147483549) (by decide)
        have c1 := Int.emod_lt_of_pos c (b := 2147483549) (by decide)
        refine ite_d (fun h1 => ?_) (fun h1 => ?_)
        · walk_at "rd"
          refine ite_d (fun h2 => ?_) (fun h2 => ?_)
          · walk_at "rd"
            refine i_rI (wd _) ?_
            walk_at "rd"
            refine i_setL hp2 (j := 2) rfl ?_
            walk_at "rd"
            refine fin _ _ (Int.ediv_nonneg ?_ (by omega)) (Int.emod_nonneg _ (by omega)) (Int.emod_lt_of_pos _ m0)
            split <;> split <;> omega
          · walk_at "rd"
            refine i_rI ⟨by decide, by decide, by omega⟩ ?_
            walk_at "rd"
            generalize hx : (c % 2147483549 + 51341 * a + 22) ^ (5 : Int).toNat % 2147483579 = x
            have x0 : 0 ≤ x := by rw [← hx]; exact Int.emod_nonneg _ (by decide)
            have x1 : x < 2147483579 := by rw [← hx]; exact Int.emod_lt_of_pos _ (by decide)
            refine i_rI (.inl ⟨by omega, by omega⟩) ?_
            walk_at "rd"
            refine i_rI (.inl ⟨by omega, by omega⟩) ?_
            walk_at "rd"
            have b1 := mul_bd x0 (Int.le_of_lt x1) (b := 2 * a + 33) (B := 20100) (by omega) (by omega)
            have b2 := mul_bd (a := 70001 * a) (A := 70001 * 10001) (by omega) (by omega) a0 (B := 10001) (by omega)
            refine i_rI ⟨by decide, by decide, by omega⟩ ?_
            walk_at "rd"
            refine i_rI (wide_div (b := 8) (by decide) (by decide) (by decide) (by decide)) ?_
            walk_at "rd"
            exact fin0 _ (Int.emod_nonneg _ (by omega)) (Int.emod_lt_of_pos _ m0)
        · refine iteF ?_
          walk_at "rd"
          refine i_rI ⟨by decide, by decide, by omega⟩ ?_
          walk_at "rd"
          generalize hx : (c % 2147483549 + 51341 * a + 22) ^ (5 : Int).toNat % 2147483579 = x
          have x0 : 0 ≤ x := by rw [← hx]; exact Int.emod_nonneg _ (by decide)
          have x1 : x < 2147483579 := by rw [← hx]; exact Int.emod_lt_of_pos _ (by decide)
          refine i_rI (.inl ⟨by omega, by omega⟩) ?_
          walk_at "rd"
          refine i_rI (.inl ⟨by omega, by omega⟩) ?_
          walk_at "rd"
          have b1 := mul_bd x0 (Int.le_of_lt x1) (b := 2 * a + 33) (B := 20100) (by omega) (by omega)
          have b2 := mul_bd (a := 70001 * a) (A := 70001 * 10001) (by omega) (by omega) a0 (B := 10001) (by omega)
          refine i_rI ⟨by decide, by decide, by omega⟩ ?_
          walk_at "rd"
          refine i_rI (wide_div (b := 8) (by decide) (by decide) (by decide) (by decide)) ?_
          walk_at "rd"
          exact fin0 _ (Int.emod_nonneg _ (by omega)) (Int.emod_lt_of_pos _ m0)
end
end Spk

set_option Elab.async false
set_option linter.all false
set_option maxRecDepth 100000
set_option maxHeartbeats 1000000
namespace Spk
open PySem L2
local macro_rules | `(tactic| walk_at "rd") => `(tactic| repeat (first
  | with_reducible refine i_seq ?_ | with_reducible refine i_asg ?_ | with_reducible refine i_ret ?_ | with_reducible refine i_ifS ?_ | with_reducible refine i_if ?_
  | with_reducible refine i_for ?_ | with_reducible refine i_iL ?_ | with_reducible refine i_iT ?_ | with_reducible refine i_ckw ?_ | with_reducible refine i_cm ?_ | with_reducible refine And.intro (rfl : V.ref _ = V.ref _) ?_ | with_reducible refine i_rng1 ?_ | with_reducible refine i_bm ?_ | with_reducible refine i_bm0 ?_
  | with_reducible refine i_drop ?_ | with_reducible refine i_next ?_
  | with_reducible refine i_var rfl ?_ | with_reducible refine i_c ?_ | with_reducible refine i_op ?_ | with_reducible refine i_un ?_ | with_reducible refine i_name ?_
  | with_reducible refine i_rI0 ?_ | with_reducible refine i_rU ?_ | with_reducible refine i_rEq rfl ?_ | with_reducible refine i_rNe rfl ?_
  | with_reducible refine i_test ?_ | with_reducible refine i_tB ?_ | with_reducible refine i_and ?_ | with_reducible refine i_or ?_ | with_reducible refine i_not ?_
  | with_reducible refine i_andV ?_ | with_reducible refine i_orV ?_ | with_reducible refine i_notV ?_
  | with_reducible refine i_cons ?_ | with_reducible refine i_nil ?_ | with_reducible refine i_cb ?_ | with_reducible refine i_call ?_ | with_reducible refine i_bl ?_
  | with_reducible refine i_tup ?_ | with_reducible refine i_lst ?_ | with_reducible refine i_par ?_ | with_reducible refine i_gcons ?_ | with_reducible refine i_gnil ?_
  | with_reducible refine And.intro (rfl : V.non = V.non) ?_ | with_reducible refine i_ixT (by assumption) rfl ?_ | with_reducible refine i_ixL (by assumption) rfl ?_ | with_reducible refine i_gtup (by assumption) rfl ?_
  | with_reducible refine i_gsub ?_
  | with_reducible refine Or.inl (Exists.intro _ (And.intro (rfl : [V.int _] = [V.int _]) ?_)) | with_reducible refine Exists.intro _ (And.intro (rfl : [V.int _] = [V.int _]) ?_)
  | with_reducible refine Or.inr (Exists.intro _ (And.intro (rfl : [V.bl _] = [V.bl _]) ?_))
  | with_reducible refine Exists.intro _ (Exists.intro _ (And.intro (rfl : [V.int _, V.int _] = [V.int _, V.int _]) ?_))
  | with_reducible refine Exists.intro _ (Exists.intro _ (And.intro (rfl : [V.ref _] = [V.ref _]) (And.intro (Or.inl (SqL.of (by assumption))) ?_)))
  | with_reducible refine i_rI (show (0 : Int) < _ by assumption) ?_ | with_reducible refine i_rI (show (0 : Int) < _ by decide) ?_
  | with_reducible refine i_rI (pow_ok (Nat.le_of_ble_eq_true rfl) (Nat.le_of_ble_eq_true rfl)) ?_
  | with_reducible refine i_rI (cmulL rfl) ?_))
section
variable {P : Program} {w : World} {K : PySem.W.Frag} {mg : Str → Option Value} {base : Heap}
theorem TupS.keep {H H' : Hp} {v : V} {s : Stc} (e : Keep H H') (h : TupS H v s) : TupS H' v s := by
  obtain ⟨a, rfl, h⟩ := h
  exact ⟨a, rfl, e _ _ rfl h⟩
theorem Tups.keep {H H' : Hp} {vs : List V} {ss : List Stc} (e : Keep H H') (h : Tups H vs ss) : Tups H' vs ss := Paired.mapP h fun _ _ z => z.keep e
theorem PartsT.keep {H H' : Hp} {t : Addr} {ps : List Stc} (e : Keep H H') (h : PartsT H t ps) : PartsT H' t ps := by
  obtain ⟨vs, h, z⟩ := h
  exact ⟨vs, e _ _ rfl h, z.keep e⟩
theorem Rng.keep {C : Addr} {H H' : Hp} {r : Addr} {ps : List Stc} (e : Keep H H') (h : Rng C H r ps) : Rng C H' r ps := by
  obtain ⟨dx, t, a, b, c⟩ := h
  exact ⟨dx, t, e _ _ rfl a, b.keep e, c⟩
theorem penny_tups {H : Hp} {vs : List V} {ss : List Stc} (h : Tups H vs ss) : penny (.lst vs) = false := by
  cases h with
  | nil => rfl
  | cons r t =>
    obtain ⟨a, rfl, _⟩ := r
    cases t with
    | nil => rfl
    | cons r t =>
      obtain ⟨b, rfl, _⟩ := r
      cases t <;> rfl
/-- a list of stretches -/
def StrL (H : Hp) (l : Addr) (ss : List Stc) : Prop := ∃ vs, H l = some (.lst vs) ∧ Tups H vs ss
theorem StrL.up {H H' : Hp} {l : Addr} {ss : List Stc} (e : Same H H') (h : StrL H l ss) : StrL H' l ss := by
  obtain ⟨vs, h, z⟩ := h
  exact ⟨vs, e _ _ h, z.up e⟩
theorem StrL.keep {H H' : Hp} {l : Addr} {ss : List Stc} (e : Keep H H') (h : StrL H l ss) : StrL H' l ss := by
  obtain ⟨vs, h, z⟩ := h
  exact ⟨vs, e _ _ (penny_tups z) h, z.keep e⟩
theorem dp_strL {H : Hp} {l : Addr} {ss : List Stc} (h : StrL H l ss) : Dp K H (.ref l) (.list (ss.map stD)) := by
  obtain ⟨vs, h, tu⟩ := h
  exact .lst (SqL.of h) (dps_tups tu)
theorem shaped_strL (ss : List Stc) : SeqAt.shaped (.list (ss.map stD)) = true := by
  have h1 := lay_ps ss
  have h2 := dep_ps ss
  have h3 : (PyData.list (ss.map stD)).depth ≤ 3 := by
    simp only [PyData.depth]
    omega
  unfold SeqAt.shaped
  rw [Bool.and_eq_true, decide_eq_true_eq]
  exact ⟨by simpa only [PyData.canLay0] using h1, by omega⟩
theorem eqv_strL (ss ts : List Stc) : PyData.eqv (.list (ss.map stD)) (.list (ts.map stD)) = decide (ss = ts) := eqvAll_ps ss ts
abbrev s_end : Stmt := top 12
theorem sc_end : FnScope ["_law_pen_here", "_law_pick"] ["_law_pen_here"] (defScope s_end) := ⟨rfl, rfl, rfl, by decide +kernel, rfl, by decide +kernel, by decide +kernel⟩
def sp_end : Sp := fun vs H Q _ => ∃ p L n, vs = [.ref p] ∧ Pen H p L n ∧ n ≤ 9990 ∧ ∀ e H', Keep H H' → Pen H' p L (n + 3) → Q (.int e) H'
theorem ok_end {f fD : Addr} {fd fdD : FuncData} (F : Fun K "_law_end" "_law_end" s_end f fd) (F_draw : Fun K "_law_draw" "_law_draw" s_draw fD fdD) (B_draw : Binds K fdD ["_law_pen_here", "_law_many"] []) (g_draw : mg "_law_draw" = some (.ref fD))
    (G_draw : FnOk P w K mg base CX0 1 fD fdD ["_law_pen_here", "_law_many"] sp_draw) : FnOk P w K mg base CX0 2 f fd ["_law_pen_here"] sp_end := by
  refine F.ok sc_end (fun vs H Q E h => ?_) (fun cdv A outer s H vs Q E hr h => ?_)
  · obtain ⟨p, L, n, rfl, _⟩ := h
    rfl
  · obtain ⟨p, L, n, rfl, hp, hn, q⟩ := h
    refine ⟨_, (pss_cons (ps_set (i := 1) sc_end.nd rfl (Or.inl rfl) (pe_call G_draw (hr.mono (by decide)) rfl g_draw F_draw.kp B_draw .nil pass0 (pa_cons (pv 0) (pa_cons pe_int pa_nil))))
 (pss_cons (ps_if (pt_cmpR op_lt (pv 1) pe_int (nomark _))
 (pss_one (ps_ret (pe_op op_sub (pe_call G_draw (hr.mono (by decide)) rfl g_draw F_draw.kp B_draw .nil pass0 (pa_cons (pv 0) (pa_cons pe_int pa_nil))) pe_int)))
 pss_nil)
 (pss_cons (ps_if (pt_cmpR op_eq (pv 1) pe_int (nomark _))
 (pss_one (ps_ret (pe_op op_sub (pe_call G_draw (hr.mono (by decide)) rfl g_draw F_draw.kp B_draw .nil pass0 (pa_cons (pv 0) (pa_cons pe_int pa_nil))) pe_int)))
 pss_nil)
 (pss_cons (ps_if (pt_cmpR op_eq (pv 1) pe_int (nomark _))
 (pss_one (ps_ret (pe_op op_mul (pe_op op_sub (pe_op op_sub (pe_op op_pow pe_int pe_int) pe_int) (pe_call G_draw (hr.mono (by decide)) rfl g_draw F_draw.kp B_draw .nil pass0 (pa_cons (pv 0) (pa_cons pe_int pa_nil)))) (pe_op op_sub pe_int (pe_op op_mul pe_int (pe_call G_draw (hr.mono (by decide)) rfl g_draw F_draw.kp B_draw .nil pass0 (pa_cons (pv 0) (pa_cons pe_int pa_nil))))))))
 pss_nil)
 (pss_one (ps_ret (pe_op op_mul (pe_call G_draw (hr.mono (by decide)) rfl g_draw F_draw.kp B_draw .nil pass0 (pa_cons (pv 0) (pa_cons (pe_op op_pow pe_int pe_int) pa_nil))) (pe_op op_sub pe_int (pe_op op_mul pe_int (pe_call G_draw (hr.mono (by decide)) rfl g_draw F_draw.kp B_draw .nil pass0 (pa_cons (pv 0) (pa_cons pe_int pa_nil)))))))))))), ?_⟩
    walk_at "rd"
    refine ⟨p, L, n, 6, rfl, hp, by omega, by decide, by decide, fun k H1 k0 k6 e1 p1 => ?_⟩
    walk_at "rd"
    refine ite_d (fun h => ?_) (fun h => ?_)
    · walk_at "rd"
      refine ⟨p, L, _, 15, rfl, p1, by omega, by decide, by decide, fun d H2 d0 d1 e2 p2 => ?_⟩
      walk_at "rd"
      exact q _ H2 (e1.trans e2) (p2.mono (by omega))
    · walk_at "rd"
      refine ite_d (fun h => ?_) (fun h => ?_)
      · walk_at "rd"
        refine ⟨p, L, _, 201, rfl, p1, by omega, by decide, by decide, fun d H2 d0 d1 e2 p2 => ?_⟩
        walk_at "rd"
        exact q _ H2 (e1.trans e2) (p2.mono (by omega))
      · walk_at "rd"
        refine ite_d (fun h => ?_) (fun h => ?_)
        · walk_at "rd"
          refine ⟨p, L, _, 4, rfl, p1, by omega, by decide, by decide, fun d H2 d0 d1 e2 p2 => ?_⟩
          walk_at "rd"
          refine ⟨p, L, _, 2, rfl, p2, by omega, by decide, by decide, fun e H3 f0 f1 e3 p3 => ?_⟩
          walk_at "rd"
          refine i_rI (.inr ⟨by omega, by omega⟩) ?_
          exact q _ H3 ((e1.trans e2).trans e3) p3
        · walk_at "rd"
          refine ⟨p, L, _, _, rfl, p1, by omega, by decide, by decide, fun d H2 d0 d1 e2 p2 => ?_⟩
          walk_at "rd"
          refine ⟨p, L, _, 2, rfl, p2, by omega, by decide, by decide, fun e H3 f0 f1 e3 p3 => ?_⟩
          walk_at "rd"
          refine i_rI (.inr ⟨by omega, by omega⟩) ?_
          exact q _ H3 ((e1.trans e2).trans e3) p3

abbrev s_stretches : Stmt := top 13
theorem sc_stretches : FnScope ["_law_pen_here", "_law_most", "_law_found", "_law_turn", "_law_low", "_law_pick", "_law_high", "_law_ends"] ["_law_pen_here", "_law_most"] (defScope s_stretches) := ⟨rfl, rfl, rfl, by decide +kernel, rfl, by decide +kernel, by decide +kernel⟩
def sp_stretches : Sp := fun vs H Q _ => ∃ p L n m, vs = [.ref p, .int m] ∧ Pen H p L n ∧ n ≤ 9000 ∧ 0 ≤ m ∧ m ≤ 6 ∧
  ∀ l H' ss, H l = none → Keep H H' → Pen H' p L (n + 60) → StrL H' l ss → (∀ s, s ∈ ss → NE s) → ss.length ≤ 6 → Q (.ref l) H'
structure TInv (H0 : Hp) (p L d : Addr) (m : Int) (n : Nat) (i : Nat) (σ : L2.St) (H : Hp) : Prop where
  ex : ∃ (ss : List Stc) (x3 x4 x5 x6 x7 : Option V), σ = [some (.ref p), some (.int m), some (.ref d), x3, x4, x5, x6, x7] ∧ Keep H0 H ∧ Pen H p L (n + 1 + 8 * i) ∧ StrL H d ss ∧ (∀ s, s ∈ ss → NE s) ∧ ss.length ≤ i
theorem at6 {a b c d e f : Int} {k : Int} (h0 : 0 ≤ k) (h1 : k < 6) : ∃ v : Int, atI [V.int a, V.int b, V.int c, V.int d, V.int e, V.int f] k = some (.int v) := by
  obtain rfl | rfl | rfl | rfl | rfl | rfl : k = 0 ∨ k = 1 ∨ k = 2 ∨ k = 3 ∨ k = 4 ∨ k = 5 := by omega
  all_goals exact ⟨_, rfl⟩
theorem Keep.mut {H0 H : Hp} {d : Addr} {o : HO} (e : Keep H0 H) (h : H0 d = none) : Keep H0 (upd H d o) := fun b u hu hb => by
  rw [upd_ne (ne_of_none hb h)]
  exact e b u hu hb
/-- a list of ours is changed -/
theorem Pen.mut {H : Hp} {p L d : Addr} {n : Nat} {vs ws : List V} {ss : List Stc} (h : Pen H p L n) (hd : H d = some (.lst vs)) (hv : Tups H vs ss) (hne : L ≠ d) : Pen (upd H d (.lst ws)) p L n := by
  obtain ⟨ns, a, l, h1, h2, r⟩ := h
  have hp : p ≠ d := fun z => by
    subst z
    rw [h1] at hd
    cases hd
    have := penny_tups hv
    simp [penny] at this
  exact ⟨ns, a, l, by rw [upd_ne hp]; exact h1, by rw [upd_ne hne]; exact h2, r⟩
theorem Pen.ne {H : Hp} {p L d : Addr} {n : Nat} (h : Pen H p L n) (hd : H d = none) : L ≠ d := by
  obtain ⟨ns, a, l, h1, h2, r⟩ := h
  exact ne_of_none h2 hd
theorem ok_stretches {f fD fE : Addr} {fd fdD fdE : FuncData} (F : Fun K "_law_stretches" "_law_stretches" s_stretches f fd) (F_draw : Fun K "_law_draw" "_law_draw" s_draw fD fdD) (B_draw : Binds K fdD ["_law_pen_here", "_law_many"] []) (g_draw : mg "_law_draw" = some (.ref fD))
    (G_draw : FnOk P w K mg base CX0 1 fD fdD ["_law_pen_here", "_law_many"] sp_draw) (F_end : Fun K "_law_end" "_law_end" s_end fE fdE) (B_end : Binds K fdE ["_law_pen_here"] []) (g_end : mg "_law_end" = some (.ref fE))
    (G_end : FnOk P w K mg base CX0 2 fE fdE ["_law_pen_here"] sp_end) (z_range : mg "range" = none) (z_int : mg "int" = none) (z_min : mg "min" = none) : FnOk P w K mg base CX0 3 f fd ["_law_pen_here", "_law_most"] sp_stretches := by
  refine F.ok sc_stretches (fun vs H Q E h => ?_) (fun cdv A outer s H vs Q E hr h => ?_)
  · obtain ⟨p, L, n, m, rfl, _⟩ := h
    rfl
  · obtain ⟨p, L, n, m, rfl, hp, hn, m0, m6, q⟩ := h
    refine ⟨_, (pss_cons (ps_set (i := 2) sc_stretches.nd rfl (Or.inl rfl) (pe_lst pa_nil))
 (pss_cons (ps_for PassesOwn.never rfl (pi_range1 (by rfl) z_range (pa_cons (pe_call G_draw (hr.mono (by decide)) rfl g_draw F_draw.kp B_draw .nil pass0 (pa_cons (pv 0) (pa_cons (pe_op op_add (pv 1) pe_int) pa_nil))) pa_nil)) (pg_name (i := 3) sc_stretches.nd rfl (Or.inl rfl))
 (pss_cons (ps_set (i := 4) sc_stretches.nd rfl (Or.inl rfl) (pe_call G_end (hr.mono (by decide)) rfl g_end F_end.kp B_end .nil pass0 (pa_cons (pv 0) pa_nil)))
 (pss_cons (ps_set (i := 5) sc_stretches.nd rfl (Or.inl rfl) (pe_call G_draw (hr.mono (by decide)) rfl g_draw F_draw.kp B_draw .nil pass0 (pa_cons (pv 0) (pa_cons pe_int pa_nil))))
 (C8.pss_cut (ps_if (PW.pt (pw_and (pt_cmpR (op_neD hr.units) (pv 2) (pe_lst pa_nil) (nomark _)) (pw_and1 (pt_cmpR op_lt (pv 5) pe_int (nomark _)))))
 (pss_cons (ps_set (i := 4) sc_stretches.nd rfl (Or.inl rfl) (pe_ix ix_tup (pe_ix ix_list (pv 2) (pe_un un_neg pe_int) (fun _ _ => rfl)) (pe_op op_fdivW (pv 5) pe_int) (fun _ _ => rfl)))
 (pss_one (ps_set (i := 4) sc_stretches.nd rfl (Or.inl rfl) (pe_op op_add (pe_op op_add (pe_ifExp (pt_cmpR op_isN (pv 4) pe_non (nomark _)) pe_int (pv 4)) pe_int) (pe_op op_mod (pe_callTy call_int1 (by rfl) z_int (by decide +kernel) (pa_cons (pv 5) pa_nil)) pe_int)))))
 pss_nil)
 (pss_cons (ps_set (i := 6) sc_stretches.nd rfl (Or.inl rfl) (pe_op op_add (pv 4) (pe_ix ix_list (pe_lst (pa_cons pe_int (pa_cons pe_int (pa_cons pe_int (pa_cons pe_int (pa_cons (pe_call G_draw (hr.mono (by decide)) rfl g_draw F_draw.kp B_draw .nil pass0 (pa_cons (pv 0) (pa_cons pe_int pa_nil))) (pa_cons (pe_call G_draw (hr.mono (by decide)) rfl g_draw F_draw.kp B_draw .nil pass0 (pa_cons (pv 0) (pa_cons pe_int pa_nil))) pa_nil))))))) (pe_call G_draw (hr.mono (by decide)) rfl g_draw F_draw.kp B_draw .nil pass0 (pa_cons (pv 0) (pa_cons pe_int pa_nil))) (fun _ _ => rfl))))
 (pss_cons (ps_set (i := 6) sc_stretches.nd rfl (Or.inl rfl) (pe_callB (call_min2 rfl) (by rfl) z_min (by decide +kernel) (pa_cons (pv 6) (pa_cons (pe_op op_sub (pe_op op_pow pe_int pe_int) pe_int) pa_nil))))
 (pss_cons (ps_set (i := 7) sc_stretches.nd rfl (Or.inl rfl) (pe_tup (pa_cons (pe_callB (call_min2 rfl) (by rfl) z_min (by decide +kernel) (pa_cons (pv 4) (pa_cons (pv 6) pa_nil))) (pa_cons (pv 6) pa_nil))))
 (pss_cons (ps_set (i := 5) sc_stretches.nd rfl (Or.inl rfl) (pe_call G_draw (hr.mono (by decide)) rfl g_draw F_draw.kp B_draw .nil pass0 (pa_cons (pv 0) (pa_cons pe_int pa_nil))))
 (C8.pss_cut (ps_if (pt_cmpR op_eq (pv 5) pe_int (nomark _))
 (pss_one (ps_set (i := 7) sc_stretches.nd rfl (Or.inl rfl) (pe_tup (pa_cons pe_non (pa_cons (pv 6) pa_nil)))))
 pss_nil)
 (C8.pss_cut (ps_if (pt_cmpR op_eq (pv 5) pe_int (nomark _))
 (pss_one (ps_set (i := 7) sc_stretches.nd rfl (Or.inl rfl) (pe_tup (pa_cons (pe_callB (call_min2 rfl) (by rfl) z_min (by decide +kernel) (pa_cons (pv 4) (pa_cons (pv 6) pa_nil))) (pa_cons pe_non pa_nil)))))
 pss_nil)
 (pss_one (ps_expr (pe_bm PySem.F.plainAttrs_list PySem.F.slot_list_append PySem.F.type_list_append mt_append (pv 2) (pa_cons (pv 7) pa_nil))))))))))))))
 (pss_one (ps_ret (pv 2))))), ?_⟩
    walk_at "rd"
    refine ⟨Nat.zero_le _, fun d hd0 => ?_⟩
    obtain ⟨H1, e1, s1, hd⟩ := new_heap (o := .lst []) hd0
    rw [e1]
    have hLd := hp.ne hd0
    walk_at "rd"
    refine ⟨p, L, n, _, rfl, hp.up s1, by omega, by omega, by omega, fun k H2 k0 k1 e2 p2 => ?_⟩
    walk_at "rd"
    refine ⟨by omega, by omega, for_range (lo := 0) (n := k.toNat) (TInv H p L d m n) ⟨[], none, none, none, none, none, rfl, (Same.keep s1).trans e2, p2, ⟨[], e2 _ _ rfl hd, .nil⟩, fun s hs => by simp at hs, Nat.le_refl _⟩ ?_ ?_⟩
    · rintro i σ H3 hi ⟨ss, x3, x4, x5, x6, x7, rfl, k3, p3, sl3, hne, hlen⟩
      walk_at "rd"
      refine ⟨p, L, _, rfl, p3, by omega, fun lo H4 e4 p4 => ?_⟩
      walk_at "rd"
      refine ⟨p, L, _, 8, rfl, p4, by omega, by decide, by decide, fun pick H5 c0 c1 e5 p5 => ?_⟩
      walk_at "rd"
      have sl5 := (sl3.keep e4).keep e5
      have k5 := (k3.trans e4).trans e5
      refine ⟨fun σ' H' => ∃ lo' : Int, σ' = [some (.ref p), some (.int m), some (.ref d), some (.int (0 + (i : Int))), some (.int lo'), some (.int pick), x6, x7] ∧ Same H5 H', ?_, ?_⟩
      · walk_at "rd"
        refine ⟨Nat.zero_le _, fun r hr => ?_⟩
        obtain ⟨H6, e6, s6, h6⟩ := new_heap (o := .lst []) hr
        rw [e6]
        refine ⟨.list (ss.map stD), .list (([] : List Stc).map stD), dp_strL (sl5.up s6), dp_strL ⟨[], h6, .nil⟩, shaped_strL ss, shaped_strL [], ?_⟩
        rw [eqv_strL]
        walk_at "rd"
        refine ite_nd (fun he => ?_) (fun he => ?_)
        · walk_at "rd"
          refine ite_d (fun hp4 => ?_) (fun hp4 => ?_)
          · walk_at "rd"
            obtain ⟨vs, hvs, tu⟩ := sl5.up s6
            rcases List.eq_nil_or_concat ss with z | ⟨st, sx, z⟩
            · exact absurd z he
            · rw [z, List.concat_eq_append] at tu
              obtain ⟨vs', v, rfl, _, ⟨c, rfl, hc⟩⟩ := tups_concat tu
              refine i_ixL hvs (atI_last _ _) ?_
              walk_at "rd"
              refine i_rI (wide_div (b := 2) (by decide) (by decide) (by decide) (by decide)) ?_
              have at2 : ∃ o, atI [ov sx.1, ov sx.2] (pick / 2) = some (ov o) := by
                obtain e | e : pick / 2 = 0 ∨ pick / 2 = 1 := by omega
                · rw [e]; exact ⟨sx.1, rfl⟩
                · rw [e]; exact ⟨sx.2, rfl⟩
              obtain ⟨o, ho⟩ := at2
              refine i_ixT hc ho ?_
              walk_at "rd"
              cases o with
              | none =>
                refine ite_d (fun _ => ?_) (fun h => absurd rfl h)
                walk_at "rd"
                exact ⟨_, rfl, s6⟩
              | some y =>
                refine ite_d (fun h => nomatch h) (fun _ => ?_)
                walk_at "rd"
                exact ⟨_, rfl, s6⟩
          · walk_at "rd"
            exact ⟨_, rfl, s6⟩
        · refine iteF ?_
          walk_at "rd"
          exact ⟨_, rfl, s6⟩
      · rintro σ' H6 ⟨lo', rfl, s6⟩
        walk_at "rd"
        refine ⟨p, L, _, 10, rfl, p5.up s6, by omega, by decide, by decide, fun d1 H7 _ _ e7 p7 => ?_⟩
        walk_at "rd"
        refine ⟨p, L, _, 1000, rfl, p7, by omega, by decide, by decide, fun d2 H8 _ _ e8 p8 => ?_⟩
        walk_at "rd"
        refine ⟨size_of (Nat.le_of_ble_eq_true rfl), fun r hr => ?_⟩
        obtain ⟨H9, e9, s9, h9⟩ := new_heap (o := .lst [.int 0, .int 0, .int 1, .int 2, .int d1, .int d2]) hr
        rw [e9]
        walk_at "rd"
        refine ⟨p, L, _, 6, rfl, p8.up s9, by omega, by decide, by decide, fun d3 H10 y0 y1 e10 p10 => ?_⟩
        obtain ⟨v, hv⟩ := at6 (a := 0) (b := 0) (c := 1) (d := 2) (e := d1) (f := d2) y0 y1
        refine i_ixL (e10 _ _ rfl h9) hv ?_
        walk_at "rd"
        have k10 : Keep H5 H10 := ((((Same.keep s6).trans e7).trans e8).trans (Same.keep s9)).trans e10
        generalize hh : (if (10 : Int) ^ (12 : Int).toNat - 40 < lo' + v then (10 : Int) ^ (12 : Int).toNat - 40 else lo' + v) = hi
        refine ⟨size_of (Nat.le_of_ble_eq_true rfl), fun r2 hr2 => ?_⟩
        obtain ⟨H11, e11, s11, h11⟩ := new_heap (o := .tup [.int (if hi < lo' then hi else lo'), .int hi]) hr2
        rw [e11]
        walk_at "rd"
        refine ⟨p, L, _, 9, rfl, p10.up s11, by omega, by decide, by decide, fun pk H12 _ _ e12 p12 => ?_⟩
        walk_at "rd"
        have k12 : Keep H5 H12 := (k10.trans (Same.keep s11)).trans e12
        have h12 := e12 _ _ rfl h11
        have neL : NE (some (if hi < lo' then hi else lo'), some hi) := fun a b q1 q2 => by
          cases q1
          cases q2
          split <;> omega
        refine ⟨fun σ' H' => ∃ (t : Addr) (sx : Stc), σ' = [some (.ref p), some (.int m), some (.ref d), some (.int (0 + (i : Int))), some (.int lo'), some (.int pk), some (.int hi), some (.ref t)] ∧ Same H12 H' ∧ H' t = some (.tup [ov sx.1, ov sx.2]) ∧ NE sx, ?_, ?_⟩
        · walk_at "rd"
          refine ite_d (fun h => ?_) (fun h => ?_)
          · walk_at "rd"
            refine ⟨size_of (Nat.le_of_ble_eq_true rfl), fun r3 hr3 => ?_⟩
            obtain ⟨H13, e13, s13, h13⟩ := new_heap (o := .tup [.non, .int hi]) hr3
            rw [e13]
            walk_at "rd"
            exact ⟨r3, (none, some hi), rfl, s13, h13, fun a b q1 => nomatch q1⟩
          · walk_at "rd"
            exact ⟨r2, (some (if hi < lo' then hi else lo'), some hi), rfl, Same.refl _, h12, neL⟩
        · rintro σ' H13 ⟨t, sx, rfl, s13, h13, nx⟩
          refine ⟨fun σ' H' => ∃ (t : Addr) (sx : Stc), σ' = [some (.ref p), some (.int m), some (.ref d), some (.int (0 + (i : Int))), some (.int lo'), some (.int pk), some (.int hi), some (.ref t)] ∧ Same H13 H' ∧ H' t = some (.tup [ov sx.1, ov sx.2]) ∧ NE sx, ?_, ?_⟩
          · walk_at "rd"
            refine ite_d (fun h => ?_) (fun h => ?_)
            · walk_at "rd"
              refine ⟨size_of (Nat.le_of_ble_eq_true rfl), fun r3 hr3 => ?_⟩
              obtain ⟨H14, e14, s14, h14⟩ := new_heap (o := .tup [.int (if hi < lo' then hi else lo'), .non]) hr3
              rw [e14]
              walk_at "rd"
              exact ⟨r3, (some _, none), rfl, s14, h14, fun a b _ q2 => nomatch q2⟩
            · walk_at "rd"
              exact ⟨t, sx, rfl, Same.refl _, h13, nx⟩
          · rintro σ' H14 ⟨t', sy, rfl, s14, h14, ny⟩
            have k14 : Keep H5 H14 := (k12.trans (Same.keep s13)).trans (Same.keep s14)
            obtain ⟨vs, hvs, tu⟩ := sl5.keep k14
            have hl := tups_len tu
            walk_at "rd"
            refine i_tyL hvs ?_
            walk_at "rd"
            refine i_app hvs (by omega) ?_
            refine ⟨ss ++ [sy], _, _, _, _, _, rfl, (k5.trans k14).mut hd0, (((p12.up s13).up s14).mut hvs tu hLd).mono (by omega), ⟨_, upd_same, (tups_snoc tu ⟨t', rfl, h14⟩).mut hvs⟩, fun s hs => ?_, by simp; omega⟩
            rcases List.mem_append.mp hs with hs | hs
            · exact hne s hs
            · rw [List.mem_singleton.mp hs]; exact ny
    · rintro σ H3 ⟨ss, x3, x4, x5, x6, x7, rfl, k3, p3, sl3, hne, hlen⟩
      walk_at "rd"
      exact q d H3 ss hd0 k3 (p3.mono (by omega)) sl3 hne (by omega)
end
end Spk

set_option Elab.async false
set_option linter.all false
set_option maxRecDepth 100000
set_option maxHeartbeats 1000000
namespace Spk
open PySem L2
local macro_rules | `(tactic| walk_at "rd") => `(tactic| repeat (first
  | with_reducible refine i_seq ?_ | with_reducible refine i_asg ?_ | with_reducible refine i_ret ?_ | with_reducible refine i_ifS ?_ | with_reducible refine i_if ?_
  | with_reducible refine i_for ?_ | with_reducible refine i_iL ?_ | with_reducible refine i_iT ?_ | with_reducible refine i_ckw ?_ | with_reducible refine i_cm ?_ | with_reducible refine And.intro (rfl : V.ref _ = V.ref _) ?_ | with_reducible refine i_rng1 ?_ | with_reducible refine i_bm ?_ | with_reducible refine i_bm0 ?_
  | with_reducible refine i_drop ?_ | with_reducible refine i_next ?_
  | with_reducible refine i_var rfl ?_ | with_reducible refine i_c ?_ | with_reducible refine i_op ?_ | with_reducible refine i_un ?_ | with_reducible refine i_name ?_
  | with_reducible refine i_rI0 ?_ | with_reducible refine i_rU ?_ | with_reducible refine i_rEq rfl ?_ | with_reducible refine i_rNe rfl ?_
  | with_reducible refine i_test ?_ | with_reducible refine i_tB ?_ | with_reducible refine i_and ?_ | with_reducible refine i_or ?_ | with_reducible refine i_not ?_
  | with_reducible refine i_andV ?_ | with_reducible refine i_orV ?_ | with_reducible refine i_notV ?_
  | with_reducible refine i_cons ?_ | with_reducible refine i_nil ?_ | with_reducible refine i_cb ?_ | with_reducible refine i_call ?_ | with_reducible refine i_bl ?_
  | with_reducible refine i_tup ?_ | with_reducible refine i_lst ?_ | with_reducible refine i_par ?_ | with_reducible refine i_gcons ?_ | with_reducible refine i_gnil ?_
  | with_reducible refine And.intro (rfl : V.non = V.non) ?_ | with_reducible refine i_ixT (by assumption) rfl ?_ | with_reducible refine i_ixL (by assumption) rfl ?_ | with_reducible refine i_gtup (by assumption) rfl ?_
  | with_reducible refine i_gsub ?_
  | with_reducible refine Or.inl (Exists.intro _ (And.intro (rfl : [V.int _] = [V.int _]) ?_)) | with_reducible refine Exists.intro _ (And.intro (rfl : [V.int _] = [V.int _]) ?_)
  | with_reducible refine Or.inr (Exists.intro _ (And.intro (rfl : [V.bl _] = [V.bl _]) ?_))
  | with_reducible refine Exists.intro _ (Exists.intro _ (And.intro (rfl : [V.int _, V.int _] = [V.int _, V.int _]) ?_))
  | with_reducible refine Exists.intro _ (Exists.intro _ (And.intro (rfl : [V.ref _] = [V.ref _]) (And.intro (Or.inl (SqL.of (by assumption))) ?_)))
  | with_reducible refine i_rI (show (0 : Int) < _ by assumption) ?_ | with_reducible refine i_rI (show (0 : Int) < _ by decide) ?_
  | with_reducible refine i_rI (pow_ok (Nat.le_of_ble_eq_true rfl) (Nat.le_of_ble_eq_true rfl)) ?_
  | with_reducible refine i_rI (cmulL rfl) ?_))
section
variable {P : Program} {w : World} {K : PySem.W.Frag} {mg : Str → Option Value} {base : Heap}
theorem item_of {H : Hp} {vs : List V} {ss : List Stc} (tu : Tups H vs ss) {i : Nat} {x : V} (hx : vs[i]? = some x) : ∃ (hi : i < ss.length) (c : Addr), x = .ref c ∧ H c = some (.tup [ov ss[i].1, ov ss[i].2]) := by
  have hi : i < ss.length := by
    have := (List.getElem?_eq_some_iff.mp hx).1
    have := tups_len tu
    omega
  obtain ⟨v, hv, c, e, hc⟩ := tups_get tu hi
  rw [hx] at hv
  cases hv
  exact ⟨hi, c, e, hc⟩
abbrev s_has : Stmt := top 14
theorem sc_has : FnScope ["_law_stretches_here", "_law_number", "_law_low", "_law_high"] ["_law_stretches_here", "_law_number"] (defScope s_has) := ⟨rfl, rfl, rfl, by decide +kernel, rfl, by decide +kernel, by decide +kernel⟩
def sp_has : Sp := fun vs H Q _ => ∃ l n ss, vs = [.ref l, .int n] ∧ StrL H l ss ∧ Q (.bl (hasL ss n)) H
structure HInv (H0 : Hp) (l : Addr) (n : Int) (ss : List Stc) (i : Nat) (σ : L2.St) (H : Hp) : Prop where
  ex : ∃ (x y : Option V), σ = [some (.ref l), some (.int n), x, y] ∧ H = H0 ∧ hasL (ss.take i) n = false
theorem ok_has {f : Addr} {fd : FuncData} (F : Fun K "_law_has" "_law_has" s_has f fd) : FnOk P w K mg base CX0 1 f fd ["_law_stretches_here", "_law_number"] sp_has := by
  refine F.ok sc_has (fun vs H Q E h => ?_) (fun cdv A outer s H vs Q E hr h => ?_)
  · obtain ⟨l, n, ss, rfl, _⟩ := h
    rfl
  · obtain ⟨l, n, ss, rfl, ⟨vs, hl, tu⟩, q⟩ := h
    refine ⟨_, (pss_cons (ps_for PassesOwn.never rfl (pi_list (pv 0)) (pg_tup (by rfl) (pgs_cons (pg_name (i := 2) sc_has.nd rfl (Or.inl rfl)) (pgs_cons (pg_name (i := 3) sc_has.nd rfl (Or.inl rfl)) pgs_nil)))
 (pss_one (ps_if (PW.pt (pw_and (PW.pt (pw_or (pt_cmpR op_isN (pv 2) pe_non (nomark _)) (pw_or1 (pt_cmpR op_le (pv 2) (pv 1) (nomark _))))) (pw_and1 (PW.pt (pw_or (pt_cmpR op_isN (pv 3) pe_non (nomark _)) (pw_or1 (pt_cmpR op_le (pv 1) (pv 3) (nomark _))))))))
 (pss_one (ps_ret pe_bl))
 pss_nil)))
 (pss_one (ps_ret pe_bl))), ?_⟩
    walk_at "rd"
    refine ⟨l, rfl, ⟨_, SqL.of hl⟩, for_list (K := K) (a := l) (xs := vs) (HInv H l n ss) ⟨none, none, rfl, rfl, rfl⟩ ?_ ?_ ?_⟩
    · rintro i σ H' _ ⟨x, y, _, e, _⟩
      subst e
      exact SqL.of hl
    · rintro i x σ H' hx ⟨y, z, rfl, e, no⟩
      subst e
      obtain ⟨hi, c, rfl, hc⟩ := item_of tu hx
      have step : hasL (ss.take (i + 1)) n = has1 ss[i] n := by
        rw [List.take_succ_eq_append_getElem hi, hasL_append, no, Bool.false_or, hasL_one]
      have found : has1 ss[i] n = true → Q (.bl true) H' := fun e => by
        have e2 : hasL ss n = true := List.any_eq_true.mpr ⟨ss[i], List.getElem_mem hi, e⟩
        rw [e2] at q
        exact q
      generalize hs : ss[i] = s at *
      obtain ⟨lo, hi'⟩ := s
      dsimp only at hc
      walk_at "rd"
      have notL : ∀ k, lo = some k → ¬ k ≤ n → has1 (lo, hi') n = false := fun k hk h => by
        subst hk
        simp only [has1, Bool.and_eq_false_iff, decide_eq_false_iff_not]
        exact .inl h
      have notR : ∀ k, hi' = some k → ¬ n ≤ k → has1 (lo, hi') n = false := fun k hk h => by
        subst hk
        simp only [has1, Bool.and_eq_false_iff, decide_eq_false_iff_not]
        exact .inr h
      have right : (∀ k, lo = some k → k ≤ n) → tOr (tTest (tOp (fun x y H Q => y = V.non ∧ Q (V.bl (decide (x = V.non))) H) (tVar 3) (tC V.non))) (tTest (tOp (rI0 fun i j => V.bl (decide (i ≤ j))) (tVar 1) (tVar 3)))
            [some (V.ref l), some (V.int n), some (ov lo), some (ov hi')] H' (fun b H1 => if b = true then Q (.bl true) H1 else HInv H' l n ss (i + 1) [some (V.ref l), some (V.int n), some (ov lo), some (ov hi')] H1) := by
        intro hl'
        walk_at "rd"
        cases hi' with
        | none =>
          refine ite_d (fun _ => iteT ?_) (fun h => absurd rfl h)
          exact found (has1_of hl' fun k hk => nomatch hk)
        | some k =>
          refine ite_d (fun h => nomatch h) (fun _ => ?_)
          walk_at "rd"
          refine ite_d (fun h => ?_) (fun h => ?_)
          · exact found (has1_of hl' fun j hj => by cases hj; exact h)
          · exact ⟨_, _, rfl, rfl, by rw [step]; exact notR k rfl h⟩
      cases lo with
      | none =>
        refine ite_d (fun _ => iteT ?_) (fun h => absurd rfl h)
        exact right fun k hk => nomatch hk
      | some k =>
        refine ite_d (fun h => nomatch h) (fun _ => ?_)
        walk_at "rd"
        refine ite_d (fun h => ?_) (fun h => ?_)
        · exact right fun j hj => by cases hj; exact h
        · refine iteF ?_
          exact ⟨_, _, rfl, rfl, by rw [step]; exact notL k rfl h⟩
    · rintro σ H' ⟨y, z, rfl, e, no⟩
      subst e
      walk_at "rd"
      rw [tups_len tu, List.take_length] at no
      rw [no] at q
      exact q

abbrev s_points : Stmt := top 15
theorem sc_points : FnScope ["_law_stretches_here", "_law_found", "_law_ends", "_law_end_here"] ["_law_stretches_here"] (defScope s_points) := ⟨rfl, rfl, rfl, by decide +kernel, rfl, by decide +kernel, by decide +kernel⟩
def sp_points : Sp := fun vs H Q _ => ∃ l ss, vs = [.ref l] ∧ StrL H l ss ∧ ss.length ≤ 1000 ∧ ∀ q H', Same H H' → H' q = some (.lst ((points ss).map V.int)) → Q (.ref q) H'
def lowE (s : Stc) : List Int := match s.1 with | none => [] | some l => [l - 1, l, l + 1]
def highE (s : Stc) : List Int := match s.2 with | none => [] | some h => [h - 1, h, h + 1]
theorem ends_eq (s : Stc) : endsOf s = lowE s ++ highE s := rfl
def pts (ss : List Stc) : List Int := [0, 1, -1, 10000000000000, -10000000000000] ++ ss.flatMap endsOf
theorem ends_len (s : Stc) : (endsOf s).length ≤ 6 := by
  obtain ⟨l, r⟩ := s
  cases l <;> cases r <;> simp [endsOf]
theorem pts_len : ∀ ss : List Stc, (ss.flatMap endsOf).length ≤ 6 * ss.length
  | [] => by simp
  | s :: ss => by
    have h1 := ends_len s
    have h2 := pts_len ss
    rw [List.flatMap_cons, List.length_append, List.length_cons]
    omega
structure PInv (H0 : Hp) (l : Addr) (B : List Int) (i : Nat) (σ : L2.St) (H : Hp) : Prop where
  ex : ∃ (q : Addr) (x y : Option V), σ = [some (.ref l), some (.ref q), x, y] ∧ Same H0 H ∧ H q = some (.lst (B.map V.int))
def endsJ (s : Stc) (j : Nat) : List Int := match j with
  | 0 => []
  | 1 => lowE s
  | _ => lowE s ++ highE s
theorem ok_points {f : Addr} {fd : FuncData} (F : Fun K "_law_points" "_law_points" s_points f fd) : FnOk P w K mg base CX0 1 f fd ["_law_stretches_here"] sp_points := by
  refine F.ok sc_points (fun vs H Q E h => ?_) (fun cdv A outer s H vs Q E hr h => ?_)
  · obtain ⟨l, ss, rfl, _⟩ := h
    rfl
  · obtain ⟨l, ss, rfl, ⟨vs, hl, tu⟩, hz, q⟩ := h
    refine ⟨_, (pss_cons (ps_set (i := 1) sc_points.nd rfl (Or.inl rfl) (pe_lst (pa_cons pe_int (pa_cons pe_int (pa_cons (pe_un un_neg pe_int) (pa_cons (pe_op op_pow pe_int pe_int) (pa_cons (pe_op op_sub pe_int (pe_op op_pow pe_int pe_int)) pa_nil)))))))
 (pss_cons (ps_for PassesOwn.never rfl (pi_list (pv 0)) (pg_name (i := 2) sc_points.nd rfl (Or.inl rfl))
 (pss_one (ps_for PassesOwn.never rfl (pi_tup (pv 2)) (pg_name (i := 3) sc_points.nd rfl (Or.inl rfl))
 (pss_one (ps_if (pt_cmpR op_notN (pv 3) pe_non (nomark _))
 (pss_one (ps_set (i := 1) sc_points.nd rfl (Or.inl rfl) (pe_op op_cat (pv 1) (pe_lst (pa_cons (pe_op op_sub (pv 3) pe_int) (pa_cons (pv 3) (pa_cons (pe_op op_add (pv 3) pe_int) pa_nil)))))))
 pss_nil)))))
 (pss_one (ps_ret (pv 1))))), ?_⟩
    walk_at "rd"
    refine ⟨size_of (Nat.le_of_ble_eq_true rfl), fun r hr => ?_⟩
    obtain ⟨H1, e1, s1, h1⟩ := new_heap (o := .lst ((pts []).map V.int)) hr
    rw [show ([V.int 0, .int 1, .int (-1), .int (10 ^ (13 : Int).toNat), .int (0 - 10 ^ (13 : Int).toNat)]) = (pts []).map V.int from rfl, e1]
    walk_at "rd"
    refine ⟨l, rfl, ⟨_, SqL.of (s1 _ _ hl)⟩, for_list (K := K) (a := l) (xs := vs) (fun i => PInv H l (pts (ss.take i)) i) ⟨r, none, none, rfl, s1, h1⟩ ?_ ?_ ?_⟩
    · rintro i σ H' _ ⟨r, x, y, _, sm, _⟩
      exact SqL.of (sm _ _ hl)
    · rintro i x σ H' hx ⟨r, y, z, rfl, sm, hr2⟩
      obtain ⟨hi, c, rfl, hc⟩ := item_of tu hx
      have hc' := sm _ _ hc
      have et : pts (ss.take (i + 1)) = pts (ss.take i) ++ endsOf ss[i] := by
        unfold pts
        rw [List.take_succ_eq_append_getElem hi, List.flatMap_append, List.flatMap_singleton, List.append_assoc]
      have hB : (pts (ss.take i)).length ≤ 6005 := by
        have h3 := pts_len (ss.take i)
        have h4 := List.length_take_le i ss
        unfold pts
        rw [List.length_append]
        simp only [List.length_cons, List.length_nil]
        have : (ss.take i).length ≤ ss.length := by rw [List.length_take]; omega
        omega
      generalize pts (ss.take i) = B at *
      generalize hs : ss[i] = sx at *
      walk_at "rd"
      refine ⟨c, rfl, ⟨_, SqT.of hc'⟩, for_tup (K := K) (a := c) (xs := [ov sx.1, ov sx.2]) (fun j => PInv H l (B ++ endsJ sx j) j) ⟨r, _, _, rfl, sm, by rw [show B ++ endsJ sx 0 = B from List.append_nil B]; exact hr2⟩ ?_ ?_ ?_⟩
      · rintro j σ H2 _ ⟨r, x, y, _, sm2, _⟩
        exact SqT.of (sm2 _ _ hc)
      · rintro j x σ H2 hx2 ⟨r2, y2, z2, rfl, sm2, hr3⟩
        have hj : j < 2 := (List.getElem?_eq_some_iff.mp hx2).1
        have step : ∃ o : Option Int, x = ov o ∧ endsJ sx (j + 1) = endsJ sx j ++ (match o with | none => [] | some k => [k - 1, k, k + 1]) := by
          obtain rfl | rfl : j = 0 ∨ j = 1 := by omega
          · exact ⟨sx.1, (Option.some.inj hx2).symm, by simp only [endsJ, lowE, List.nil_append]⟩
          · exact ⟨sx.2, (Option.some.inj hx2).symm, by simp only [endsJ, highE]⟩
        have hl2 : (endsJ sx j).length ≤ 3 := by
          obtain rfl | rfl : j = 0 ∨ j = 1 := by omega
          · simp [endsJ]
          · simp only [endsJ, lowE]
            split <;> simp
        obtain ⟨o, rfl, eo⟩ := step
        walk_at "rd"
        cases o with
        | none =>
          refine ite_nd (fun h => absurd rfl h) (fun _ => ?_)
          walk_at "rd"
          refine ⟨r2, _, _, rfl, sm2, ?_⟩
          rw [eo, List.append_nil]
          exact hr3
        | some k =>
          refine ite_nd (fun _ => ?_) (fun h => nomatch h)
          walk_at "rd"
          refine ⟨size_of (Nat.le_of_ble_eq_true rfl), fun r4 hr4 => ?_⟩
          obtain ⟨H3, e3, s3, h3⟩ := new_heap (o := .lst (([k - 1, k, k + 1] : List Int).map V.int)) hr4
          rw [show ([V.int (k - 1), .int k, .int (k + 1)]) = ([k - 1, k, k + 1] : List Int).map V.int from rfl, e3]
          refine ⟨r2, r4, _, _, rfl, rfl, s3 _ _ hr3, h3, size_of (by simp; omega), fun r5 hr5 => ?_⟩
          obtain ⟨H4, e4, s4, h4⟩ := new_heap (o := .lst ((B ++ endsJ sx j).map V.int ++ ([k - 1, k, k + 1] : List Int).map V.int)) hr5
          rw [e4]
          walk_at "rd"
          refine ⟨r5, _, _, rfl, fun b o z => s4 _ _ (s3 _ _ (sm2 _ _ z)), ?_⟩
          rw [h4, eo, ← List.map_append, List.append_assoc]
      · rintro σ H2 ⟨r2, y2, z2, rfl, sm2, hr3⟩
        refine ⟨r2, _, _, rfl, sm2, ?_⟩
        rw [et, ends_eq]
        exact hr3
    · rintro σ H' ⟨r, y, z, rfl, sm, hr2⟩
      walk_at "rd"
      rw [tups_len tu, List.take_length] at hr2
      exact q r H' sm hr2
abbrev s_is_joined : Stmt := top 16
theorem sc_is_joined : FnScope ["_law_parts", "_law_at", "_law_part", "_law_end_here", "_law_low", "_law_high"] ["_law_parts"] (defScope s_is_joined) := ⟨rfl, rfl, rfl, by decide +kernel, rfl, by decide +kernel, by decide +kernel⟩
def sp_is_joined : Sp := fun vs H Q _ => ∃ t ps, vs = [.ref t] ∧ PartsT H t ps ∧ Canon ps ∧ ∀ H', Same H H' → Q (.bl true) H'
structure KInv (H0 : Hp) (t : Addr) (i : Nat) (σ : L2.St) (H : Hp) : Prop where
  ex : ∃ (x1 x2 x3 x4 x5 : Option V), σ = [some (.ref t), x1, x2, x3, x4, x5] ∧ Same H0 H
structure KInv2 (H0 : Hp) (t : Addr) (x1 x2 : Option V) (i : Nat) (σ : L2.St) (H : Hp) : Prop where
  ex : ∃ (x3 x4 x5 : Option V), σ = [some (.ref t), x1, x2, x3, x4, x5] ∧ H = H0
theorem ok_is_joined {f : Addr} {fd : FuncData} (F : Fun K "_law_is_joined" "_law_is_joined" s_is_joined f fd) (z_isinstance : mg "isinstance" = none) (z_tuple : mg "tuple" = none) (z_int : mg "int" = none) (z_bool : mg "bool" = none) (z_len : mg "len" = none) (z_enumerate : mg "enumerate" = none) :
    FnOk P w K mg base CX0 1 f fd ["_law_parts"] sp_is_joined := by
  refine F.ok sc_is_joined (fun vs H Q E h => ?_) (fun cdv A outer s H vs Q E hr h => ?_)
  · obtain ⟨t, ps, rfl, _⟩ := h
    rfl
  · obtain ⟨t, ps, rfl, ⟨vs, ht, tu⟩, hc, q⟩ := h
    refine ⟨_, (pss_cons (ps_if (pt_not (pt_val (pe_callB call_isi (by rfl) z_isinstance (by decide +kernel) (pa_cons (pv 0) (pa_cons (pe_bltn (v := .ty "tuple") (u := .type "tuple") (by rfl) z_tuple (by decide +kernel) rfl) pa_nil)))))
 (pss_one (ps_ret pe_bl))
 pss_nil)
 (pss_cons (ps_for PassesOwn.never rfl (pi_enumT (by rfl) z_enumerate (pa_cons (pv 0) pa_nil)) (pg_tup (by rfl) (pgs_cons (pg_name (i := 1) sc_is_joined.nd rfl (Or.inl rfl)) (pgs_cons (pg_name (i := 2) sc_is_joined.nd rfl (Or.inl rfl)) pgs_nil)))
 (pss_cons (ps_if (PW.pt (pw_or (pt_not (pt_val (pe_callB call_isi (by rfl) z_isinstance (by decide +kernel) (pa_cons (pv 2) (pa_cons (pe_bltn (v := .ty "tuple") (u := .type "tuple") (by rfl) z_tuple (by decide +kernel) rfl) pa_nil))))) (pw_or1 (pt_cmpR op_ne (pe_callB call_len_seq (by rfl) z_len PySem.boot_len (pa_cons (pv 2) pa_nil)) pe_int (nomark _)))))
 (pss_one (ps_ret pe_bl))
 pss_nil)
 (pss_cons (ps_for PassesOwn.never rfl (pi_tup (pv 2)) (pg_name (i := 3) sc_is_joined.nd rfl (Or.inl rfl))
 (pss_one (ps_if (PW.pt (pw_and (pt_cmpR op_notN (pv 3) pe_non (nomark _)) (pw_and1 (PW.pt (pw_or (pt_not (pt_val (pe_callB call_isi (by rfl) z_isinstance (by decide +kernel) (pa_cons (pv 3) (pa_cons (pe_bltn (v := .ty "int") (u := .type "int") (by rfl) z_int (by decide +kernel) rfl) pa_nil))))) (pw_or1 (pt_val (pe_callB call_isi (by rfl) z_isinstance (by decide +kernel) (pa_cons (pv 3) (pa_cons (pe_bltn (v := .ty "bool") (u := .type "bool") (by rfl) z_bool (by decide +kernel) rfl) pa_nil))))))))))
 (pss_one (ps_ret pe_bl))
 pss_nil)))
 (pss_cons (ps_asg (pv 2) (pg_tup (by rfl) (pgs_cons (pg_name (i := 4) sc_is_joined.nd rfl (Or.inl rfl)) (pgs_cons (pg_name (i := 5) sc_is_joined.nd rfl (Or.inl rfl)) pgs_nil))))
 (C8.pss_cut (ps_if (PW.pt (pw_or (PW.pt (pw_and (pt_cmpR op_isN (pv 4) pe_non (nomark _)) (pw_and1 (pt_cmpR op_gt (pv 1) pe_int (nomark _))))) (pw_or1 (PW.pt (pw_and (pt_cmpR op_isN (pv 5) pe_non (nomark _)) (pw_and1 (pt_cmpR op_lt (pe_op op_add (pv 1) pe_int) (pe_callB call_len_seq (by rfl) z_len PySem.boot_len (pa_cons (pv 0) pa_nil)) (nomark _))))))))
 (pss_one (ps_ret pe_bl))
 pss_nil)
 (C8.pss_cut (ps_if (PW.pt (pw_and (pt_cmpR op_notN (pv 4) pe_non (nomark _)) (pw_and (pt_cmpR op_notN (pv 5) pe_non (nomark _)) (pw_and1 (pt_cmpR op_gt (pv 4) (pv 5) (nomark _))))))
 (pss_one (ps_ret pe_bl))
 pss_nil)
 (pss_one (ps_if (PW.pt (pw_and (pt_cmpR op_gt (pv 1) pe_int (nomark _)) (pw_and1 (pt_cmpR op_ge (pe_op op_add (pe_ix ix_tup (pe_ix ix_tup (pv 0) (pe_op op_sub (pv 1) pe_int) (fun _ _ => rfl)) pe_int (fun _ _ => rfl)) pe_int) (pv 4) (nomark _)))))
 (pss_one (ps_ret pe_bl))
 pss_nil))))))))
 (pss_one (ps_ret pe_bl)))), ?_⟩
    have hlen := tups_len tu
    walk_at "rd"
    refine ⟨_, _, _, _, true, rfl, .ty "tuple", .base (.tup ht), kit_ty (by decide +kernel), true, rfl, iteF ?_⟩
    walk_at "rd"
    refine i_iET ?_
    walk_at "rd"
    refine ⟨t, vs, rfl, SqT.of ht, for_enumT (xs := vs) (KInv H t) ⟨none, none, none, none, none, rfl, Same.refl H⟩ ?_ ?_ ?_⟩
    · rintro i σ H' _ ⟨x1, x2, x3, x4, x5, _, sm⟩
      exact SqT.of (sm _ _ ht)
    · rintro i x T σ H1 hx ⟨x1, x2, x3, x4, x5, rfl, sm⟩ hT
      obtain ⟨hi, c, rfl, hcc⟩ := item_of tu hx
      obtain ⟨H2, e2, s2, h2⟩ := new_heap (o := .tup [.int (i : Nat), .ref c]) hT
      rw [e2]
      have sm2 : Same H H2 := fun b o z => s2 _ _ (sm _ _ z)
      have hcc2 := sm2 _ _ hcc
      have ht2 := sm2 _ _ ht
      have facts : NE ps[i] := hc.ne _ (List.getElem_mem hi)
      have lows : ps[i].1 = none → i = 0 := fun e => by
        cases i with
        | zero => rfl
        | succ k =>
          obtain ⟨h, l, _, e2, _⟩ := List.pairwise_iff_getElem.mp hc.ap k (k + 1) (by omega) hi (by omega)
          rw [e] at e2
          cases e2
      have highs : ps[i].2 = none → i + 1 = ps.length := fun e => by
        by_cases q : i + 1 = ps.length
        · exact q
        · obtain ⟨h, l, e1, _, _⟩ := List.pairwise_iff_getElem.mp hc.ap i (i + 1) hi (by omega) (by omega)
          rw [e] at e1
          cases e1
      have prev : ∀ k, i = k + 1 → ∃ (c' : Addr) (o : Option Int) (h l : Int), vs[k]? = some (.ref c') ∧ H2 c' = some (.tup [ov o, ov (some h)]) ∧ ps[i].1 = some l ∧ h + 1 < l := fun k e => by
        subst e
        obtain ⟨h, l, e1, e2, q⟩ := List.pairwise_iff_getElem.mp hc.ap k (k + 1) (by omega) hi (by omega)
        obtain ⟨v, hv, c', rfl, hc'⟩ := tups_get tu (i := k) (by omega)
        rw [e1] at hc'
        exact ⟨c', _, h, l, hv, sm2 _ _ hc', e2, q⟩
      generalize hs : ps[i] = sx at *
      obtain ⟨lo, hi'⟩ := sx
      dsimp only at *
      walk_at "rd"
      refine ⟨_, _, _, _, true, rfl, .ty "tuple", .base (.tup hcc2), kit_ty (by decide +kernel), true, rfl, iteF ?_⟩
      walk_at "rd"
      refine ⟨c, _, rfl, .inr (SqT.of hcc2), ?_⟩
      walk_at "rd"
      refine ite_nd (fun h => absurd rfl h) (fun _ => ?_)
      walk_at "rd"
      refine ⟨c, rfl, ⟨_, SqT.of hcc2⟩, for_tup (K := K) (a := c) (xs := [ov lo, ov hi']) (KInv2 H2 t (some (.int (i : Nat))) (some (.ref c))) ⟨_, _, _, rfl, rfl⟩ ?_ ?_ ?_⟩
      · rintro j σ H3 _ ⟨_, _, _, _, e⟩
        subst e
        exact SqT.of hcc2
      · rintro j x σ H3 hx2 ⟨y3, y4, y5, rfl, e⟩
        subst e
        have ho : ∃ o, x = ov o := by
          have hj : j < 2 := (List.getElem?_eq_some_iff.mp hx2).1
          obtain rfl | rfl : j = 0 ∨ j = 1 := by omega
          · exact ⟨lo, (Option.some.inj hx2).symm⟩
          · exact ⟨hi', (Option.some.inj hx2).symm⟩
        obtain ⟨o, rfl⟩ := ho
        walk_at "rd"
        cases o with
        | none =>
          refine ite_nd (fun h => absurd rfl h) (fun _ => iteF ?_)
          walk_at "rd"
          exact ⟨_, _, _, rfl, rfl⟩
        | some k =>
          refine ite_nd (fun _ => ?_) (fun h => nomatch h)
          walk_at "rd"
          refine ⟨_, _, _, _, true, rfl, .ty "int", .base (.int k), kit_ty (by decide +kernel), true, rfl, iteF ?_⟩
          walk_at "rd"
          refine ⟨_, _, _, _, false, rfl, .ty "bool", .base (.int k), kit_ty (by decide +kernel), false, rfl, iteF ?_⟩
          walk_at "rd"
          exact ⟨_, _, _, rfl, rfl⟩
      · rintro σ H3 ⟨y3, y4, y5, rfl, e⟩
        subst e
        walk_at "rd"
        -- low is None only at the first one, high is None only at the last one
        refine i_cut0 ?_ ?_
        · walk_at "rd"
          have two : tAnd (tTest (tOp (fun x y H Q => y = V.non ∧ Q (V.bl (decide (x = V.non))) H) (tVar 5) (tC V.non)))
                (tTest (tOp (rI0 fun i j => V.bl (decide (i < j))) (tOp (rI0 fun i j => V.int (i + j)) (tVar 1) (tC (V.int 1))) (tCB (fun xs H Q => ∃ p ys, xs = [V.ref p] ∧ (SqL K H p ys ∨ SqT K H p ys) ∧ Q (V.int ys.length) H) (tCons (tVar 0) tNil))))
                [some (V.ref t), some (V.int (i : Nat)), some (V.ref c), y3, some (ov lo), some (ov hi')] H3
                (fun b H1 => if b = true then Q (.bl false) H1 else [some (V.ref t), some (V.int (i : Nat)), some (V.ref c), y3, some (ov lo), some (ov hi')] = [some (V.ref t), some (V.int (i : Nat)), some (V.ref c), y3, some (ov lo), some (ov hi')] ∧ H1 = H3) := by
            walk_at "rd"
            cases hi' with
            | none =>
              refine ite_d (fun _ => ?_) (fun h => absurd rfl h)
              walk_at "rd"
              refine ⟨t, vs, rfl, .inr (SqT.of ht2), ?_⟩
              walk_at "rd"
              have e := highs rfl
              refine ite_d (fun h => by omega) (fun _ => ?_)
              exact ⟨rfl, rfl⟩
            | some k =>
              refine ite_d (fun h => nomatch h) (fun _ => ?_)
              exact iteF ⟨rfl, rfl⟩
          cases lo with
          | none =>
            refine ite_d (fun _ => ?_) (fun h => absurd rfl h)
            walk_at "rd"
            have e := lows rfl
            refine ite_d (fun h => by omega) (fun _ => ?_)
            exact two
          | some k =>
            refine ite_d (fun h => nomatch h) (fun _ => iteF ?_)
            exact two
        refine i_cut0 ?_ ?_
        · walk_at "rd"
          cases lo with
          | none =>
            refine ite_nd (fun h => absurd rfl h) (fun _ => iteF ?_)
            walk_at "rd"
            exact ⟨rfl, rfl⟩
          | some k =>
            refine ite_nd (fun _ => ?_) (fun h => nomatch h)
            walk_at "rd"
            cases hi' with
            | none =>
              refine ite_nd (fun h => absurd rfl h) (fun _ => iteF ?_)
              walk_at "rd"
              exact ⟨rfl, rfl⟩
            | some k2 =>
              refine ite_nd (fun _ => ?_) (fun h => nomatch h)
              walk_at "rd"
              have e := facts k k2 rfl rfl
              refine ite_d (fun h => by omega) (fun _ => ?_)
              walk_at "rd"
              exact ⟨rfl, rfl⟩
        walk_at "rd"
        refine ite_d (fun hpos => ?_) (fun _ => ?_)
        · obtain ⟨k, hk⟩ : ∃ k, i = k + 1 := ⟨i - 1, by omega⟩
          obtain ⟨c', o, h, l, hv, hc', el, hlt⟩ := prev k hk
          subst el
          walk_at "rd"
          refine i_ixT (v := .ref c') ht2 (by rw [show ((i : Nat) : Int) - 1 = (k : Int) by omega]; exact atI_nat hv) ?_
          walk_at "rd"
          refine ite_d (fun h => by omega) (fun _ => ?_)
          walk_at "rd"
          exact ⟨_, _, _, _, _, rfl, sm2⟩
        · refine iteF ?_
          walk_at "rd"
          exact ⟨_, _, _, _, _, rfl, sm2⟩
    · rintro σ H1 ⟨x1, x2, x3, x4, x5, rfl, sm⟩
      walk_at "rd"
      exact q H1 sm
end
end Spk

set_option Elab.async false
set_option linter.all false
set_option maxRecDepth 100000
set_option maxHeartbeats 1000000
namespace Spk
open PySem L2
local macro_rules | `(tactic| walk_at "rd") => `(tactic| repeat (first
  | with_reducible refine i_seq ?_ | with_reducible refine i_asg ?_ | with_reducible refine i_ret ?_ | with_reducible refine i_ifS ?_ | with_reducible refine i_if ?_
  | with_reducible refine i_for ?_ | with_reducible refine i_iL ?_ | with_reducible refine i_iT ?_ | with_reducible refine i_ckw ?_ | with_reducible refine i_cm ?_ | with_reducible refine And.intro (rfl : V.ref _ = V.ref _) ?_ | with_reducible refine i_rng1 ?_ | with_reducible refine i_bm ?_ | with_reducible refine i_bm0 ?_
  | with_reducible refine i_drop ?_ | with_reducible refine i_next ?_
  | with_reducible refine i_var rfl ?_ | with_reducible refine i_c ?_ | with_reducible refine i_op ?_ | with_reducible refine i_un ?_ | with_reducible refine i_name ?_
  | with_reducible refine i_rI0 ?_ | with_reducible refine i_rU ?_ | with_reducible refine i_rEq rfl ?_ | with_reducible refine i_rNe rfl ?_
  | with_reducible refine i_test ?_ | with_reducible refine i_tB ?_ | with_reducible refine i_and ?_ | with_reducible refine i_or ?_ | with_reducible refine i_not ?_
  | with_reducible refine i_andV ?_ | with_reducible refine i_orV ?_ | with_reducible refine i_notV ?_
  | with_reducible refine i_cons ?_ | with_reducible refine i_nil ?_ | with_reducible refine i_cb ?_ | with_reducible refine i_call ?_ | with_reducible refine i_bl ?_
  | with_reducible refine i_tup ?_ | with_reducible refine i_lst ?_ | with_reducible refine i_par ?_ | with_reducible refine i_gcons ?_ | with_reducible refine i_gnil ?_
  | with_reducible refine And.intro (rfl : V.non = V.non) ?_ | with_reducible refine i_ixT (by assumption) rfl ?_ | with_reducible refine i_ixL (by assumption) rfl ?_ | with_reducible refine i_gtup (by assumption) rfl ?_
  | with_reducible refine i_gsub ?_
  | with_reducible refine Or.inl (Exists.intro _ (And.intro (rfl : [V.int _] = [V.int _]) ?_)) | with_reducible refine Exists.intro _ (And.intro (rfl : [V.int _] = [V.int _]) ?_)
  | with_reducible refine Or.inr (Exists.intro _ (And.intro (rfl : [V.bl _] = [V.bl _]) ?_))
  | with_reducible refine Exists.intro _ (Exists.intro _ (And.intro (rfl : [V.int _, V.int _] = [V.int _, V.int _]) ?_))
  | with_reducible refine Exists.intro _ (Exists.intro _ (And.intro (rfl : [V.ref _] = [V.ref _]) (And.intro (Or.inl (SqL.of (by assumption))) ?_)))
  | with_reducible refine i_rI (show (0 : Int) < _ by assumption) ?_ | with_reducible refine i_rI (show (0 : Int) < _ by decide) ?_
  | with_reducible refine i_rI (pow_ok (Nat.le_of_ble_eq_true rfl) (Nat.le_of_ble_eq_true rfl)) ?_
  | with_reducible refine i_rI (cmulL rfl) ?_))
/-- an operator of two forms -/
theorem op_or2 {X : Cx} {f : Value → Value → Sem Value} {r1 r2 : R2} (h1 : OpR X f r1) (h2 : OpR X f r2) : OpR X f (fun x y H Q => r1 x y H Q ∨ r2 x y H Q) := fun pins s σ H x y v u Q I rx ry h =>
  h.elim (fun z => h1 pins s σ H x y v u Q I rx ry z) fun z => h2 pins s σ H x y v u Q I rx ry z
/-- what the text says of the class's methods as they are called from outside -/
structure ClsM (K : PySem.W.Frag) (C : Addr) (mc : Value) (pe pb po pf ge gb go gf fO : Addr) : Prop where
  rd : ClX.CRead K C mc
  empty : ClX.CMet K C mc "empty" pe ge
  between : ClX.CMet K C mc "between" pb gb
  of : ClX.CMet K C mc "of" po go
  full : ClX.CMet K C mc "full" pf gf
  self : PySem.W.selfFirst K C = true
  orF : PySem.W.findIn K (.ref C) "__or__" = some (some (.ref fO))
  orI : PySem.W.isFn K (.ref fO) = true
/-- what the text says of in and bool -/
structure ClsK (K : PySem.W.Frag) (C fN fB : Addr) : Prop where
  inF : PySem.W.findIn K (.ref C) "__contains__" = some (some (.ref fN))
  inI : PySem.W.isFn K (.ref fN) = true
  boF : PySem.W.findIn K (.ref C) "__bool__" = some (some (.ref fB))
  boI : PySem.W.isFn K (.ref fB) = true
section
variable {P : Program} {w : World} {K : PySem.W.Frag} {mg : Str → Option Value} {base : Heap} {C fI fE : Addr} {mc : Value} {pe pb po pf ge gb go gf fO : Addr}
/-- the promises of the class, as they are called -/
structure ClsR (P : Program) (w : World) (K : PySem.W.Frag) (mg : Str → Option Value) (base : Heap) (C ge gb go gf fO fE : Addr) : Prop where
  empty : FnR P w K mg base CX0 3 ge (fun vs H Q E => sp_empty C (vs ++ []) H Q E)
  between : FnR P w K mg base CX0 3 gb (fun vs H Q E => sp_between C (vs ++ []) H Q E)
  of : FnR P w K mg base CX0 5 go (sp_of C)
  full : FnR P w K mg base CX0 3 gf (fun vs H Q E => sp_full C (vs ++ []) H Q E)
  or : FnR P w K mg base CX0 5 fO (fun vs H Q E => sp_or C (vs ++ []) H Q E)
  eq : FnR P w K mg base CX0 1 fE (fun vs H Q E => sp_eq C (vs ++ []) H Q E)
theorem tups_erase {H : Hp} : ∀ {vs : List V} {ss : List Stc} (k : Nat), Tups H vs ss → Tups H (vs.eraseIdx k) (ss.eraseIdx k)
  | _, _, _, .nil => .nil
  | _, _, 0, .cons _ t => t
  | _, _, k + 1, .cons r t => .cons r (tups_erase k t)
theorem hasL_erase : ∀ {ss : List Stc} {k : Nat} (h : k < ss.length) (n : Int), hasL ss n = (has1 ss[k] n || hasL (ss.eraseIdx k) n)
  | s :: ss, 0, _, n => by simp [hasL_cons]
  | s :: ss, k + 1, h, n => by
    rw [hasL_cons, hasL_erase (ss := ss) (k := k) (by simpa using h) n, List.eraseIdx_cons_succ, hasL_cons, List.getElem_cons_succ]
    cases has1 s n <;> simp
theorem seq_ix {n : Nat} {d : Int} (h0 : 0 ≤ d) (h1 : d < n) : seqIndex? d n = some d.toNat := by
  refine (ixN_seq (j := d.toNat) ?_).1
  unfold ixN
  rw [if_pos h0, if_pos h1]
abbrev s_made : Stmt := top 17
theorem sc_made : FnScope ["_law_pen_here", "_law_stretches_here", "_law_left", "_law_found", "_law_low", "_law_high", "_law_one"] ["_law_pen_here", "_law_stretches_here"] (defScope s_made) := ⟨rfl, rfl, rfl, by decide +kernel, rfl, by decide +kernel, by decide +kernel⟩
def sp_made (C : Addr) : Sp := fun vs H Q _ => ∃ p L n l ss, vs = [.ref p, .ref l] ∧ Pen H p L n ∧ n ≤ 9000 ∧ StrL H l ss ∧ ss.length ≤ 100 ∧ (∀ s, s ∈ ss → NE s) ∧
  ∀ r H' ps, Keep H H' → Pen H' p L (n + 3 * ss.length) → Rng C H' r ps → (∀ k, hasL ps k = hasL ss k) → ps.length ≤ ss.length → Q (.ref r) H'
structure MInv (C : Addr) (H0 : Hp) (p L l d : Addr) (n : Nat) (ss : List Stc) (m : Nat) (σ : L2.St) (H : Hp) : Prop where
  ex : ∃ (lt ps : List Stc) (r : Addr) (x4 x5 x6 : Option V), σ = [some (.ref p), some (.ref l), some (.ref d), some (.ref r), x4, x5, x6] ∧ m = lt.length ∧ Keep H0 H ∧ Pen H p L (n + 3 * (ss.length - lt.length)) ∧ StrL H d lt ∧ Rng C H r ps ∧
    (∀ k, (hasL ps k || hasL lt k) = hasL ss k) ∧ ps.length + lt.length ≤ ss.length ∧ ∀ s, s ∈ lt → NE s
theorem Rng.mut {H : Hp} {r d : Addr} {vs ws : List V} {ps : List Stc} (h : Rng C H r ps) (hd : H d = some (.lst vs)) : Rng C (upd H d (.lst ws)) r ps := by
  obtain ⟨dx, t, a, ⟨us, b, tu⟩, c⟩ := h
  refine ⟨dx, t, ?_, ⟨us, ?_, tu.mut hd⟩, c⟩
  · rw [upd_ne (ne_of a hd (by intro z; cases z))]
    exact a
  · rw [upd_ne (ne_of b hd (by intro z; cases z))]
    exact b
theorem ok_made {f fD : Addr} {fd fdD : FuncData} (F : Fun K "_law_made" "_law_made" s_made f fd) (F_draw : Fun K "_law_draw" "_law_draw" s_draw fD fdD) (B_draw : Binds K fdD ["_law_pen_here", "_law_many"] []) (g_draw : mg "_law_draw" = some (.ref fD))
    (G_draw : FnOk P w K mg base CX0 1 fD fdD ["_law_pen_here", "_law_many"] sp_draw) (CM : ClsM K C mc pe pb po pf ge gb go gf fO) (R : ClsR P w K mg base C ge gb go gf fO fE) (g_C : mg "Ranges" = some (.ref C))
    (z_list : mg "list" = none) (z_len : mg "len" = none) : FnOk P w K mg base CX0 6 f fd ["_law_pen_here", "_law_stretches_here"] (sp_made C) := by
  have R_empty := R.empty
  have R_between := R.between
  have R_of := R.of
  have R_or := R.or
  refine F.ok sc_made (fun vs H Q E h => ?_) (fun cdv A outer s H vs Q E hr h => ?_)
  · obtain ⟨p, L, n, l, ss, rfl, _⟩ := h
    rfl
  · obtain ⟨p, L, n, l, ss, rfl, hp, hn, ⟨vs, hl, tu⟩, hz, hne, q⟩ := h
    refine ⟨_, (pss_cons (ps_set (i := 2) sc_made.nd rfl (Or.inl rfl) (pe_callTy call_list_of (by rfl) z_list (by decide +kernel) (pa_cons (pv 1) pa_nil)))
 (pss_cons (ps_set (i := 3) sc_made.nd rfl (Or.inl rfl) (pe_cmeth0 (pe_glob rfl g_C (relR _)) CM.rd CM.empty R_empty (hr.mono (by decide)) pass0))
 (pss_cons (ps_while PassesOwn.never (pt_cmpR (op_neD hr.units) (pv 2) (pe_lst pa_nil) (nomark _))
 (pss_cons (ps_asg (pe_bm PySem.F.plainAttrs_list PySem.F.slot_list_pop PySem.F.type_list_pop mt_popAt (pv 2) (pa_cons (pe_call G_draw (hr.mono (by decide)) rfl g_draw F_draw.kp B_draw .nil pass0 (pa_cons (pv 0) (pa_cons (pe_callB call_len_seq (by rfl) z_len PySem.boot_len (pa_cons (pv 2) pa_nil)) pa_nil))) pa_nil)) (pg_tup (by rfl) (pgs_cons (pg_name (i := 4) sc_made.nd rfl (Or.inl rfl)) (pgs_cons (pg_name (i := 5) sc_made.nd rfl (Or.inl rfl)) pgs_nil))))
 (pss_cons (ps_set (i := 6) sc_made.nd rfl (Or.inl rfl) (ClX.pe_cmeth (pe_glob rfl g_C (relR _)) CM.rd CM.between R_between (hr.mono (by decide)) pass0 (pa_cons (pv 4) (pa_cons (pv 5) pa_nil))))
 (C8.pss_cut (ps_if (PW.pt (pw_and (pt_cmpR op_notN (pv 4) pe_non (nomark _)) (pw_and (pt_cmpR op_eq (pv 4) (pv 5) (nomark _)) (pw_and1 (pt_cmpR op_eq (pe_call G_draw (hr.mono (by decide)) rfl g_draw F_draw.kp B_draw .nil pass0 (pa_cons (pv 0) (pa_cons pe_int pa_nil))) pe_int (nomark _))))))
 (pss_one (ps_set (i := 6) sc_made.nd rfl (Or.inl rfl) (ClX.pe_cmeth (pe_glob rfl g_C (relR _)) CM.rd CM.of R_of (hr.mono (by decide)) pass0 (pa_cons (pv 4) (pa_cons (pv 4) pa_nil)))))
 pss_nil)
 (pss_one (ps_set (i := 3) sc_made.nd rfl (Or.inl rfl) (pe_ix ix_list (pe_lst (pa_cons (pe_op (op_own (op := .BitOr) R_or (hr.mono (by decide)) CM.self CM.orF CM.orI) (pv 3) (pv 6)) (pa_cons (pe_op (op_own (op := .BitOr) R_or (hr.mono (by decide)) CM.self CM.orF CM.orI) (pv 6) (pv 3)) pa_nil))) (pe_call G_draw (hr.mono (by decide)) rfl g_draw F_draw.kp B_draw .nil pass0 (pa_cons (pv 0) (pa_cons pe_int pa_nil))) (fun _ _ => rfl))))))))
 (pss_one (ps_ret (pv 3)))))), ?_⟩
    have hlen := tups_len tu
    walk_at "rd"
    intro d hd0
    obtain ⟨H1, e1, s1, hd⟩ := new_heap (o := .lst vs) hd0
    rw [e1]
    have hLd := hp.ne hd0
    walk_at "rd"
    refine ⟨rfl, fun r H2 s2 hr2 => ?_⟩
    have s02 : Same H H2 := fun b o z => s2 _ _ (s1 _ _ z)
    walk_at "rd"
    refine ⟨MInv C H p L l d n ss, ⟨_, ss, [], r, none, none, none, rfl, rfl, Same.keep s02, (hp.up s02).mono (by omega), ⟨vs, s2 _ _ hd, tu.up s02⟩, hr2, fun k => by rw [hasL_nil, Bool.false_or], by simp, hne⟩, ?_⟩
    rintro m σ H3 ⟨lt, ps, r, x4, x5, x6, rfl, em, k3, p3, sl3, hr3, hm3, hz3, hne3⟩
    walk_at "rd"
    refine ⟨Nat.zero_le _, fun y hy => ?_⟩
    obtain ⟨H4, e4, s4, h4⟩ := new_heap (o := .lst []) hy
    rw [e4]
    have sl4 := sl3.up s4
    refine ⟨.list (lt.map stD), .list (([] : List Stc).map stD), dp_strL sl4, dp_strL ⟨[], h4, .nil⟩, shaped_strL lt, shaped_strL [], ?_⟩
    rw [eqv_strL]
    walk_at "rd"
    refine ite_nd (fun hn0 => ?_) (fun he => ?_)
    · refine ⟨fun σ' H' => ∃ m', m' < m ∧ MInv C H p L l d n ss m' σ' H', fun _ _ h => h, ?_⟩
      obtain ⟨vs4, hd4, tu4⟩ := id sl4
      have hl4 := tups_len tu4
      have hpos : 0 < lt.length := List.length_pos_iff.mpr hn0
      walk_at "rd"
      refine i_tyL hd4 ?_
      walk_at "rd"
      refine ⟨p, L, _, _, rfl, p3.up s4, by omega, by omega, by omega, fun i H5 i0 i1 e5 p5 => ?_⟩
      walk_at "rd"
      have sl5 := sl4.keep e5
      have hd5 : H5 d = some (.lst vs4) := e5 _ _ (penny_tups tu4) hd4
      have tu5 := tu4.keep e5
      have hi : i.toNat < lt.length := by omega
      obtain ⟨v, hv, c, rfl, hc⟩ := tups_get tu5 hi
      refine ⟨d, vs4, i, i.toNat, .ref c, rfl, rfl, hd5, by omega, by omega, seq_ix i0 (by omega), hv, ?_⟩
      have k6 : Keep H (upd H5 d (.lst (vs4.eraseIdx i.toNat))) := ((k3.trans (Same.keep s4)).trans e5).mut hd0
      have p6 : Pen (upd H5 d (.lst (vs4.eraseIdx i.toNat))) p L (n + 3 * (ss.length - lt.length) + 1) := p5.mut hd5 tu5 hLd
      have sl6 : StrL (upd H5 d (.lst (vs4.eraseIdx i.toNat))) d (lt.eraseIdx i.toNat) := ⟨_, upd_same, (tups_erase i.toNat tu5).mut hd5⟩
      have hr6 : Rng C (upd H5 d (.lst (vs4.eraseIdx i.toNat))) r ps := Rng.mut ((hr3.up s4).keep e5) hd5
      have hc6 : upd H5 d (.lst (vs4.eraseIdx i.toNat)) c = some (.tup [ov lt[i.toNat].1, ov lt[i.toNat].2]) := by
        rw [upd_ne (ne_of hc hd5 (by intro z; cases z))]
        exact hc
      have he3 := fun k => hasL_erase hi k
      have hes : (lt.eraseIdx i.toNat).length = lt.length - 1 := by rw [List.length_eraseIdx, if_pos hi]
      have nex : NE lt[i.toNat] := hne3 _ (List.getElem_mem hi)
      generalize upd H5 d (.lst (vs4.eraseIdx i.toNat)) = H6 at *
      generalize lt[i.toNat] = sx at *
      have hne6 : ∀ s, s ∈ lt.eraseIdx i.toNat → NE s := fun s hs => hne3 s (List.mem_of_mem_eraseIdx hs)
      generalize lt.eraseIdx i.toNat = lt' at *
      obtain ⟨lo, hi'⟩ := sx
      dsimp only at hc6
      walk_at "rd"
      refine ⟨lo, hi', rfl, fun o H7 qs s7 ho hm7 hz7 => ?_⟩
      walk_at "rd"
      -- behind the if: a set with the integers of the stretch
      refine ⟨fun σ' H' => ∃ (o : Addr) (qs : List Stc), σ' = [some (.ref p), some (.ref l), some (.ref d), some (.ref r), some (ov lo), some (ov hi'), some (.ref o)] ∧ Keep H7 H' ∧ Pen H' p L (n + 3 * (ss.length - lt.length) + 2) ∧ Rng C H' o qs ∧ (∀ k, hasL qs k = has1 (lo, hi') k) ∧ qs.length ≤ 1, ?_, ?_⟩
      · have plain : ∃ (o' : Addr) (qs' : List Stc), ([some (.ref p), some (.ref l), some (.ref d), some (.ref r), some (ov lo), some (ov hi'), some (.ref o)] : L2.St) = [some (.ref p), some (.ref l), some (.ref d), some (.ref r), some (ov lo), some (ov hi'), some (.ref o')] ∧ Keep H7 H7 ∧ Pen H7 p L (n + 3 * (ss.length - lt.length) + 2) ∧ Rng C H7 o' qs' ∧ (∀ k, hasL qs' k = has1 (lo, hi') k) ∧ qs'.length ≤ 1 :=
          ⟨o, qs, rfl, Keep.refl _, (p6.up s7).mono (by omega), ho, hm7, hz7⟩
        walk_at "rd"
        cases lo with
        | none =>
          refine ite_nd (fun h => absurd rfl h) (fun _ => iteF ?_)
          walk_at "rd"
          exact plain
        | some a =>
          refine ite_nd (fun _ => ?_) (fun h => nomatch h)
          walk_at "rd"
          cases hi' with
          | none =>
            refine i_rEq rfl ?_
            walk_at "rd"
            refine ite_d (fun h => nomatch h) (fun _ => iteF ?_)
            walk_at "rd"
            exact plain
          | some b =>
            walk_at "rd"
            refine ite_d (fun hab => ?_) (fun _ => ?_)
            · have eab : a = b := V.int.inj hab
              subst eab
              walk_at "rd"
              refine ⟨p, L, _, 2, rfl, p6.up s7, by omega, by decide, by decide, fun dd H8 _ _ e8 p8 => ?_⟩
              walk_at "rd"
              refine ite_d (fun _ => ?_) (fun _ => ?_)
              · walk_at "rd"
                refine ⟨[a, a], rfl, by simp, fun o2 H9 rs s9 ho2 hm9 hz9 => ?_⟩
                walk_at "rd"
                have hmr : ∀ k, hasL rs k = has1 (some a, some a) k := fun k => by
                  rw [hm9 k]
                  simp [singles, hasL]
                have eo : rs = [(some a, some a)] := canon_unique ho2.canon (canon_one nex) fun k => by rw [hmr k, hasL_one]
                exact ⟨o2, rs, rfl, e8.trans (Same.keep s9), (p8.up s9).mono (by omega), ho2, hmr, by rw [eo]; exact Nat.le_refl _⟩
              · walk_at "rd"
                exact ⟨o, qs, rfl, e8, p8.mono (by omega), ho.keep e8, hm7, hz7⟩
            · walk_at "rd"
              exact plain
      · rintro σ' H8 ⟨o, qs, rfl, e8, p8, ho, hm8, hz8⟩
        have hr8 := (hr6.up s7).keep e8
        have sl8 := (sl6.up s7).keep e8
        have k8 : Keep H H8 := (k6.trans (Same.keep s7)).trans e8
        obtain ⟨dx1, t1, a1, b1⟩ := id hr8
        obtain ⟨dx2, t2, a2, b2⟩ := id ho
        walk_at "rd"
        refine ⟨r, o, _, _, _, _, rfl, rfl, a1, a2, r, o, ps, qs, rfl, hr8, ho, by omega, fun u1 H9 us1 s9 hu1 hm9 hz9 => ?_⟩
        walk_at "rd"
        refine ⟨o, r, _, _, _, _, rfl, rfl, s9 _ _ a2, s9 _ _ a1, o, r, qs, ps, rfl, ho.up s9, hr8.up s9, by omega, fun u2 H10 us2 s10 hu2 hm10 hz10 => ?_⟩
        walk_at "rd"
        refine ⟨size_of (Nat.le_of_ble_eq_true rfl), fun y2 hy2 => ?_⟩
        obtain ⟨H11, e11, s11, h11⟩ := new_heap (o := .lst [.ref u1, .ref u2]) hy2
        rw [e11]
        walk_at "rd"
        refine ⟨p, L, _, 2, rfl, ((p8.up s9).up s10).up s11, by omega, by decide, by decide, fun dd H12 d0 d1 e12 p12 => ?_⟩
        have pick : ∃ u us, atI [V.ref u1, .ref u2] dd = some (.ref u) ∧ Rng C H12 u us ∧ (∀ k, hasL us k = (hasL ps k || has1 (lo, hi') k)) ∧ us.length ≤ ps.length + 1 := by
          obtain rfl | rfl : dd = 0 ∨ dd = 1 := by omega
          · exact ⟨u1, us1, rfl, (((hu1.up s10).up s11).keep e12), fun k => (hm9 k).trans (by rw [← hm8 k]), by omega⟩
          · exact ⟨u2, us2, rfl, ((hu2.up s11).keep e12), fun k => (hm10 k).trans (by rw [← hm8 k]; exact Bool.or_comm _ _), by omega⟩
        obtain ⟨u, us, hat, hu, hmu, hzu⟩ := pick
        refine i_ixL (e12 _ _ rfl h11) hat ?_
        walk_at "rd"
        have k12 : Keep H8 H12 := (((Same.keep s9).trans (Same.keep s10)).trans (Same.keep s11)).trans e12
        refine ⟨lt'.length, by omega, ⟨lt', us, u, _, _, _, rfl, rfl, k8.trans k12, p12.mono (by omega), sl8.keep k12, hu, fun k => ?_, by omega, hne6⟩⟩
        rw [hmu k, Bool.or_assoc, ← he3 k]
        exact hm3 k
    · subst he
      walk_at "rd"
      have hm : ∀ k, hasL ps k = hasL ss k := fun k => by have := hm3 k; rwa [hasL_nil, Bool.or_false] at this
      refine q r H4 ps (k3.trans (Same.keep s4)) ?_ (hr3.up s4) hm (by omega)
      have := p3.up s4
      exact this.mono (by simp)

end
end Spk

set_option Elab.async false
set_option linter.all false
set_option maxRecDepth 100000
set_option maxHeartbeats 1000000
namespace Spk
open PySem L2
local macro_rules | `(tactic| walk_at "rd") => `(tactic| repeat (first
  | with_reducible refine i_seq ?_ | with_reducible refine i_asg ?_ | with_reducible refine i_ret ?_ | with_reducible refine i_ifS ?_ | with_reducible refine i_if ?_
  | with_reducible refine i_for ?_ | with_reducible refine i_iL ?_ | with_reducible refine i_iT ?_ | with_reducible refine i_ckw ?_ | with_reducible refine i_cm ?_ | with_reducible refine And.intro (rfl : V.ref _ = V.ref _) ?_ | with_reducible refine i_rng1 ?_ | with_reducible refine i_bm ?_ | with_reducible refine i_bm0 ?_
  | with_reducible refine i_drop ?_ | with_reducible refine i_next ?_
  | with_reducible refine i_var rfl ?_ | with_reducible refine i_c ?_ | with_reducible refine i_op ?_ | with_reducible refine i_un ?_ | with_reducible refine i_name ?_
  | with_reducible refine i_rI0 ?_ | with_reducible refine i_rU ?_ | with_reducible refine i_rEq rfl ?_ | with_reducible refine i_rNe rfl ?_
  | with_reducible refine i_test ?_ | with_reducible refine i_tB ?_ | with_reducible refine i_and ?_ | with_reducible refine i_or ?_ | with_reducible refine i_not ?_
  | with_reducible refine i_andV ?_ | with_reducible refine i_orV ?_ | with_reducible refine i_notV ?_
  | with_reducible refine i_cons ?_ | with_reducible refine i_nil ?_ | with_reducible refine i_cb ?_ | with_reducible refine i_call ?_ | with_reducible refine i_bl ?_
  | with_reducible refine i_tup ?_ | with_reducible refine i_lst ?_ | with_reducible refine i_par ?_ | with_reducible refine i_gcons ?_ | with_reducible refine i_gnil ?_
  | with_reducible refine And.intro (rfl : V.non = V.non) ?_ | with_reducible refine i_ixT (by assumption) rfl ?_ | with_reducible refine i_ixL (by assumption) rfl ?_ | with_reducible refine i_gtup (by assumption) rfl ?_
  | with_reducible refine i_gsub ?_
  | with_reducible refine Or.inl (Exists.intro _ (And.intro (rfl : [V.int _] = [V.int _]) ?_)) | with_reducible refine Exists.intro _ (And.intro (rfl : [V.int _] = [V.int _]) ?_)
  | with_reducible refine Or.inr (Exists.intro _ (And.intro (rfl : [V.bl _] = [V.bl _]) ?_))
  | with_reducible refine Exists.intro _ (Exists.intro _ (And.intro (rfl : [V.int _, V.int _] = [V.int _, V.int _]) ?_))
  | with_reducible refine Exists.intro _ (Exists.intro _ (And.intro (rfl : [V.ref _] = [V.ref _]) (And.intro (Or.inl (SqL.of (by assumption))) ?_)))
  | with_reducible refine i_rI (show (0 : Int) < _ by assumption) ?_ | with_reducible refine i_rI (show (0 : Int) < _ by decide) ?_
  | with_reducible refine i_rI (pow_ok (Nat.le_of_ble_eq_true rfl) (Nat.le_of_ble_eq_true rfl)) ?_
  | with_reducible refine i_rI (cmulL rfl) ?_))
section
variable {P : Program} {w : World} {K : PySem.W.Frag} {mg : Str → Option Value} {base : Heap} {C fI fE : Addr} {mc : Value} {pe pb po pf ge gb go gf fO : Addr}
theorem gapAt_len (low first : Option Int) : (gapAt low first).length ≤ 1 := by
  cases first <;> simp [gapAt]
theorem gapsF_len : ∀ (ps : List Stc) (low : Option Int), (gapsF low ps).length ≤ ps.length + 1
  | [], _ => Nat.le_refl _
  | (first, last) :: ps, low => by
    have h1 := gapAt_len low first
    simp only [gapsF, List.length_append, List.length_cons]
    cases last with
    | none =>
      simp only [List.length_nil]
      omega
    | some b =>
      have h2 := gapsF_len ps (some (b + 1))
      dsimp only
      omega
structure GInv (H0 : Hp) (t d : Addr) (ps : List Stc) (i : Nat) (σ : L2.St) (H : Hp) : Prop where
  ex : ∃ (vs : List V) (G : List Stc) (low : Option Int) (x y : Option V), σ = [some (.ref t), some (.ref d), some (ov low), x, y] ∧ Same H0 H ∧ H d = some (.lst vs) ∧ Tups H vs G ∧ gapsF none ps = G ++ gapsF low (ps.drop i) ∧ G.length ≤ i
abbrev s_gaps : Stmt := top 7
theorem sc_gaps : FnScope ["parts", "found", "low", "first", "last"] ["parts"] (defScope s_gaps) := ⟨rfl, rfl, rfl, by decide +kernel, rfl, by decide +kernel, by decide +kernel⟩
def sp_gaps : Sp := fun vs H Q _ => ∃ t ps, vs = [.ref t] ∧ PartsT H t ps ∧ ps.length ≤ 2000 ∧ ∀ p H', Same H H' → PartsT H' p (gapsF none ps) → Q (.ref p) H'
theorem ok_gaps {f : Addr} {fd : FuncData} (F : Fun K "gaps" "gaps" s_gaps f fd) (z_tuple : mg "tuple" = none) : FnOk P w K mg base CX0 1 f fd ["parts"] sp_gaps := by
  refine F.ok sc_gaps (fun vs H Q E h => ?_) (fun cdv A outer s H vs Q E hr h => ?_)
  · obtain ⟨t, ps, rfl, _⟩ := h
    rfl
  · obtain ⟨t, ps, rfl, ⟨us, ht, tu⟩, hz, q⟩ := h
    refine ⟨_, (pss_cons (ps_set (i := 1) sc_gaps.nd rfl (Or.inl rfl) (pe_lst pa_nil))
 (pss_cons (ps_set (i := 2) sc_gaps.nd rfl (Or.inl rfl) pe_non)
 (pss_cons (ps_for PassesOwn.never rfl (pi_tup (pv 0)) (pg_tup (by rfl) (pgs_cons (pg_name (i := 3) sc_gaps.nd rfl (Or.inl rfl)) (pgs_cons (pg_name (i := 4) sc_gaps.nd rfl (Or.inl rfl)) pgs_nil)))
 (C8.pss_cut (ps_if (pt_cmpR op_notN (pv 3) pe_non (nomark _))
 (pss_one (ps_expr (pe_bm PySem.F.plainAttrs_list PySem.F.slot_list_append PySem.F.type_list_append mt_append (pv 1) (pa_cons (pe_tup (pa_cons (pv 2) (pa_cons (pe_op op_sub (pv 3) pe_int) pa_nil))) pa_nil))))
 pss_nil)
 (pss_cons (ps_if (pt_cmpR op_isN (pv 4) pe_non (nomark _))
 (pss_one (ps_ret (pe_callTy call_tuple_of (by rfl) z_tuple (by decide +kernel) (pa_cons (pv 1) pa_nil))))
 pss_nil)
 (pss_one (ps_set (i := 2) sc_gaps.nd rfl (Or.inl rfl) (pe_op op_add (pv 4) pe_int))))))
 (pss_cons (ps_expr (pe_bm PySem.F.plainAttrs_list PySem.F.slot_list_append PySem.F.type_list_append mt_append (pv 1) (pa_cons (pe_tup (pa_cons (pv 2) (pa_cons pe_non pa_nil))) pa_nil)))
 (pss_one (ps_ret (pe_callTy call_tuple_of (by rfl) z_tuple (by decide +kernel) (pa_cons (pv 1) pa_nil)))))))), ?_⟩
    have hlen := tups_len tu
    walk_at "rd"
    refine ⟨Nat.zero_le _, fun d hd0 => ?_⟩
    obtain ⟨H1, e1, s1, hd⟩ := new_heap (o := .lst []) hd0
    rw [e1]
    walk_at "rd"
    refine ⟨t, rfl, ⟨_, SqT.of (s1 _ _ ht)⟩, for_tup (K := K) (a := t) (xs := us) (GInv H t d ps) ⟨[], [], none, none, none, rfl, s1, hd, .nil, rfl, Nat.le_refl _⟩ ?_ ?_ ?_⟩
    · rintro i σ H' _ ⟨vs, G, low, x, y, _, sm, _⟩
      exact SqT.of (sm _ _ ht)
    · rintro i x σ H' hx ⟨vs, G, low, y, z, rfl, sm, hd2, tg, eg, hG⟩
      obtain ⟨hi, c, rfl, hc⟩ := item_of tu hx
      have hc' := sm _ _ hc
      rw [List.drop_eq_getElem_cons hi] at eg
      generalize hs : ps[i] = sx at *
      obtain ⟨first, last⟩ := sx
      dsimp only at hc'
      have gl := tups_len tg
      have g1 := gapAt_len low first
      walk_at "rd"
      refine ⟨fun σ' H' => ∃ (vs2 : List V), σ' = [some (.ref t), some (.ref d), some (ov low), some (ov first), some (ov last)] ∧ Same H H' ∧ H' d = some (.lst vs2) ∧ Tups H' vs2 (G ++ gapAt low first), ?_, ?_⟩
      · walk_at "rd"
        cases first with
        | none =>
          refine ite_nd (fun h => absurd rfl h) (fun _ => ?_)
          walk_at "rd"
          exact ⟨vs, rfl, sm, hd2, by rw [gapAt, List.append_nil]; exact tg⟩
        | some a =>
          refine ite_nd (fun _ => ?_) (fun h => nomatch h)
          walk_at "rd"
          refine i_tyL hd2 ?_
          walk_at "rd"
          refine ⟨size_of (Nat.le_of_ble_eq_true rfl), fun q2 hq2 => ?_⟩
          obtain ⟨H3, e3, s3, h3⟩ := new_heap (o := .tup [ov low, .int (a - 1)]) hq2
          rw [e3]
          walk_at "rd"
          refine i_app (s3 _ _ hd2) (by omega) ?_
          walk_at "rd"
          exact ⟨vs ++ [.ref q2], rfl, Same.mut (fun b o z => s3 _ _ (sm _ _ z)) hd0, upd_same, Tups.mut (tups_snoc (tg.up s3) ⟨q2, rfl, h3⟩) (s3 _ _ hd2)⟩
      · rintro σ' H2 ⟨vs2, rfl, sm2, hd3, tg2⟩
        walk_at "rd"
        cases last with
        | none =>
          refine ite_d (fun _ => ?_) (fun h => absurd rfl h)
          walk_at "rd"
          refine ⟨d, vs2, rfl, .inl ⟨SqL.of hd3, fun p6 hp6 => ?_⟩⟩
          obtain ⟨H6, e6, s6, h6⟩ := new_heap (o := .tup vs2) hp6
          rw [e6]
          refine q p6 H6 (fun b o z => s6 _ _ (sm2 _ _ z)) ⟨vs2, h6, ?_⟩
          rw [eg]
          simp only [gapsF, List.append_nil]
          exact tg2.up s6
        | some b =>
          refine ite_d (fun h => nomatch h) (fun _ => ?_)
          walk_at "rd"
          refine ⟨vs2, G ++ gapAt low first, some (b + 1), _, _, rfl, sm2, hd3, tg2, ?_, ?_⟩
          · rw [eg, List.append_assoc]
            rfl
          · rw [List.length_append]
            omega
    · rintro σ H' ⟨vs, G, low, y, z, rfl, sm, hd2, tg, eg, hG⟩
      have gl := tups_len tg
      rw [hlen, List.drop_length] at eg
      walk_at "rd"
      refine i_tyL hd2 ?_
      walk_at "rd"
      refine ⟨size_of (Nat.le_of_ble_eq_true rfl), fun q2 hq2 => ?_⟩
      obtain ⟨H3, e3, s3, h3⟩ := new_heap (o := .tup [ov low, .non]) hq2
      rw [e3]
      walk_at "rd"
      refine i_app (s3 _ _ hd2) (by omega) ?_
      walk_at "rd"
      refine ⟨d, vs ++ [.ref q2], rfl, .inl ⟨SqL.of upd_same, fun p6 hp6 => ?_⟩⟩
      obtain ⟨H6, e6, s6, h6⟩ := new_heap (o := .tup (vs ++ [.ref q2])) hp6
      rw [e6]
      have sm4 : Same H (upd H3 d (.lst (vs ++ [.ref q2]))) := Same.mut (fun b o z => s3 _ _ (sm _ _ z)) hd0
      refine q p6 H6 (fun b o z => s6 _ _ (sm4 _ _ z)) ⟨_, h6, ?_⟩
      rw [eg]
      exact (Tups.mut (tups_snoc (tg.up s3) ⟨q2, rfl, h3⟩) (s3 _ _ hd2)).up s6
/-! ### a & b, a - b, a.is_within(b) -/
abbrev s_Ranges__and : Stmt := inClass (top 2) 6
theorem sc_Ranges__and : FnScope ["self", "other"] ["self", "other"] (defScope s_Ranges__and) := ⟨rfl, rfl, rfl, by decide +kernel, rfl, by decide +kernel, by decide +kernel⟩
def sp_and (C : Addr) : Sp := fun vs H Q _ => ∃ a b ps qs, vs = [.ref a, .ref b] ∧ Rng C H a ps ∧ Rng C H b qs ∧ ps.length + qs.length ≤ 900 ∧ NewR C H Q (ps.length + qs.length + 3) fun k => hasL ps k && hasL qs k
theorem gaps_canon {ps : List Stc} (h : Canon ps) : Canon (gapsF none ps) := (gaps_ok ps none h fun _ e => nomatch e).canon
/-- the end of both: gaps of the joined parts -/
theorem cut_fin {H : Hp} {fd fdJ fdI : FuncData} {t u : Addr} {us vs : List V} {ps qs : List Stc} {Q : VK} (ht : H t = some (.tup us)) (hu : H u = some (.tup vs)) (tu : Tups H us ps) (tv : Tups H vs qs) (cp : Canon ps) (cq : Canon qs) (hz : ps.length + qs.length ≤ 1000)
    (q : NewR C H Q (ps.length + qs.length + 1) fun k => !(hasL ps k || hasL qs k)) :
    rCatA K (.ref t) (.ref u) H fun x H1 => sp_joined K [x] H1 (fun y H2 => sp_gaps [y] H2 (fun v H2 => ∀ x dx, H2 x = none → H2 dx = none → dx ≠ x → spI C (V.ref x :: [v]) (upd (upd H2 dx (.own x)) x (.ins C dx [])) (fun v H2 => v = .non ∧ Q (.ref x) H2) E0) E0) E0 := by
  have hne : ∀ s, s ∈ ps ++ qs → NE s := fun s hs => (List.mem_append.mp hs).elim (cp.ne s) (cq.ne s)
  have l1 := tups_len tu
  have l2 := tups_len tv
  have fin : ∀ (p : Addr) (H1 : Hp), Same H H1 → H1 p = some (.tup (us ++ vs)) → sp_joined K [.ref p] H1 (fun y H2 => sp_gaps [y] H2 (fun v H2 => ∀ x dx, H2 x = none → H2 dx = none → dx ≠ x → spI C (V.ref x :: [v]) (upd (upd H2 dx (.own x)) x (.ins C dx [])) (fun v H2 => v = .non ∧ Q (.ref x) H2) E0) E0) E0 := by
    intro p H1 s1 hp
    refine ⟨p, us ++ vs, ps ++ qs, rfl, .inr (SqT.of hp), tups_append (tu.up s1) (tv.up s1), by rw [List.length_append]; omega, hne, fun r H2 rs s2 hr hc hm hl => ?_⟩
    rw [List.length_append] at hl
    refine ⟨r, rs, rfl, hr, by omega, fun p3 H3 s3 hp3 => ?_⟩
    refine mk_rng hp3 (gaps_canon hc) fun x H4 s4 hx => ?_
    refine q x H4 _ (fun b o z => s4 _ _ (s3 _ _ (s2 _ _ (s1 _ _ z)))) hx (fun k => by rw [gaps_has hc, hm k, hasL_append]) ?_
    have := gapsF_len rs none
    omega
  refine ⟨t, u, us, vs, rfl, rfl, SqT.of ht, SqT.of hu, size_of (by omega), fun e => ?_, fun _ e => ?_, fun _ _ p hp => ?_⟩
  · subst e
    exact fin u H (Same.refl H) hu
  · subst e
    exact fin t H (Same.refl H) (by rw [List.append_nil]; exact ht)
  · obtain ⟨H1, e1, s1, h1⟩ := new_heap (o := .tup (us ++ vs)) hp
    rw [e1]
    exact fin p H1 s1 h1
theorem ok_and {f fJ fG : Addr} {fd fdI fdJ fdG : FuncData} (F : Fun K "__and__" "Ranges.__and__" s_Ranges__and f fd) (FI : Fun K "__init__" "Ranges.__init__" s_Ranges__init fI fdI) (B_init : Binds K fdI ["self", "parts"] []) (T : ClsT K mg C fI fE)
    (F_joined : Fun K "joined" "joined" s_joined fJ fdJ) (B_joined : Binds K fdJ ["stretches"] []) (g_joined : mg "joined" = some (.ref fJ)) (G_joined : FnOk P w K mg base CX0 4 fJ fdJ ["stretches"] (sp_joined K))
    (F_gaps : Fun K "gaps" "gaps" s_gaps fG fdG) (B_gaps : Binds K fdG ["parts"] []) (g_gaps : mg "gaps" = some (.ref fG)) (z_tuple : mg "tuple" = none) :
    FnOk P w K mg base CX0 5 f fd ["self", "other"] (sp_and C) := by
  have RI : FnR P w K mg base CX0 1 fI (spI C) := FnOk.raw (ok_init FI T) B_init .nil
  have G_gaps : FnOk P w K mg base CX0 1 fG fdG ["parts"] sp_gaps := ok_gaps F_gaps z_tuple
  have M := T.M
  have g_C := T.g_C
  refine F.ok sc_Ranges__and (fun vs H Q E h => ?_) (fun cdv A outer s H vs Q E hr h => ?_)
  · obtain ⟨a, b, ps, qs, rfl, _⟩ := h
    rfl
  · obtain ⟨a, b, ps, qs, rfl, ⟨dx, t, ha, pa, ca⟩, ⟨dy, u, hb, pb, cb⟩, hz, q⟩ := h
    refine ⟨_, (pss_one (ps_ret (StX.pe_makeR M RI (hr.mono (by decide)) rfl g_C pass0 (pa_cons (pe_call G_gaps (hr.mono (by decide)) rfl g_gaps F_gaps.kp B_gaps .nil pass0 (pa_cons (pe_call G_joined (hr.mono (by decide)) rfl g_joined F_joined.kp B_joined .nil pass0 (pa_cons (pe_op op_catA (pe_call G_gaps (hr.mono (by decide)) rfl g_gaps F_gaps.kp B_gaps .nil pass0 (pa_cons (pe_fld (pv 0) rfl) pa_nil)) (pe_call G_gaps (hr.mono (by decide)) rfl g_gaps F_gaps.kp B_gaps .nil pass0 (pa_cons (pe_fld (pv 1) rfl) pa_nil))) pa_nil)) pa_nil)) pa_nil)))), ?_⟩
    unfold StX.tMakeR
    walk_at "rd"
    refine ⟨_, rfl, a, C, dx, _, _, rfl, ha, T.cl, T.nP, lk_parts, ?_⟩
    walk_at "rd"
    refine ⟨t, ps, rfl, pa, by omega, fun p1 H1 s1 ⟨us, h1, t1⟩ => ?_⟩
    walk_at "rd"
    refine ⟨_, rfl, b, C, dy, _, _, rfl, s1 _ _ hb, T.cl, T.nP, lk_parts, ?_⟩
    walk_at "rd"
    refine ⟨u, qs, rfl, pb.up s1, by omega, fun p2 H2 s2 ⟨vs, h2, t2⟩ => ?_⟩
    have z1 := gapsF_len ps none
    have z2 := gapsF_len qs none
    refine cut_fin (fd := fd) (fdJ := fd) (fdI := fd) (s2 _ _ h1) h2 (t1.up s2) t2 (gaps_canon ca) (gaps_canon cb) (by omega) fun r H' rs s3 hr hm hl => ?_
    exact q r H' rs (fun b o z => s3 _ _ (s2 _ _ (s1 _ _ z))) hr (fun k => by rw [hm k]; simp only [gaps_has ca, gaps_has cb, Bool.not_or, Bool.not_not]) (by omega)
abbrev s_Ranges__sub : Stmt := inClass (top 2) 7
theorem sc_Ranges__sub : FnScope ["self", "other"] ["self", "other"] (defScope s_Ranges__sub) := ⟨rfl, rfl, rfl, by decide +kernel, rfl, by decide +kernel, by decide +kernel⟩
def sp_sub (C : Addr) : Sp := fun vs H Q _ => ∃ a b ps qs, vs = [.ref a, .ref b] ∧ Rng C H a ps ∧ Rng C H b qs ∧ ps.length + qs.length ≤ 900 ∧ NewR C H Q (ps.length + qs.length + 2) fun k => hasL ps k && !hasL qs k
theorem ok_sub {f fJ fG : Addr} {fd fdI fdJ fdG : FuncData} (F : Fun K "__sub__" "Ranges.__sub__" s_Ranges__sub f fd) (FI : Fun K "__init__" "Ranges.__init__" s_Ranges__init fI fdI) (B_init : Binds K fdI ["self", "parts"] []) (T : ClsT K mg C fI fE)
    (F_joined : Fun K "joined" "joined" s_joined fJ fdJ) (B_joined : Binds K fdJ ["stretches"] []) (g_joined : mg "joined" = some (.ref fJ)) (G_joined : FnOk P w K mg base CX0 4 fJ fdJ ["stretches"] (sp_joined K))
    (F_gaps : Fun K "gaps" "gaps" s_gaps fG fdG) (B_gaps : Binds K fdG ["parts"] []) (g_gaps : mg "gaps" = some (.ref fG)) (z_tuple : mg "tuple" = none) :
    FnOk P w K mg base CX0 5 f fd ["self", "other"] (sp_sub C) := by
  have RI : FnR P w K mg base CX0 1 fI (spI C) := FnOk.raw (ok_init FI T) B_init .nil
  have G_gaps : FnOk P w K mg base CX0 1 fG fdG ["parts"] sp_gaps := ok_gaps F_gaps z_tuple
  have M := T.M
  have g_C := T.g_C
  refine F.ok sc_Ranges__sub (fun vs H Q E h => ?_) (fun cdv A outer s H vs Q E hr h => ?_)
  · obtain ⟨a, b, ps, qs, rfl, _⟩ := h
    rfl
  · obtain ⟨a, b, ps, qs, rfl, ⟨dx, t, ha, pa, ca⟩, ⟨dy, u, hb, ⟨vs, hu, tv⟩, cb⟩, hz, q⟩ := h
    refine ⟨_, (pss_one (ps_ret (StX.pe_makeR M RI (hr.mono (by decide)) rfl g_C pass0 (pa_cons (pe_call G_gaps (hr.mono (by decide)) rfl g_gaps F_gaps.kp B_gaps .nil pass0 (pa_cons (pe_call G_joined (hr.mono (by decide)) rfl g_joined F_joined.kp B_joined .nil pass0 (pa_cons (pe_op op_catA (pe_call G_gaps (hr.mono (by decide)) rfl g_gaps F_gaps.kp B_gaps .nil pass0 (pa_cons (pe_fld (pv 0) rfl) pa_nil)) (pe_fld (pv 1) rfl)) pa_nil)) pa_nil)) pa_nil)))), ?_⟩
    unfold StX.tMakeR
    walk_at "rd"
    refine ⟨_, rfl, a, C, dx, _, _, rfl, ha, T.cl, T.nP, lk_parts, ?_⟩
    walk_at "rd"
    refine ⟨t, ps, rfl, pa, by omega, fun p1 H1 s1 ⟨us, h1, t1⟩ => ?_⟩
    refine ⟨_, rfl, b, C, dy, _, _, rfl, s1 _ _ hb, T.cl, T.nP, lk_parts, ?_⟩
    have z1 := gapsF_len ps none
    refine cut_fin (fd := fd) (fdJ := fd) (fdI := fd) h1 (s1 _ _ hu) t1 (tv.up s1) (gaps_canon ca) cb (by omega) fun r H' rs s3 hr hm hl => ?_
    exact q r H' rs (fun b o z => s3 _ _ (s1 _ _ z)) hr (fun k => by rw [hm k]; simp only [gaps_has ca, Bool.not_or, Bool.not_not]) (by omega)
/-- what the text says of the class's other operators -/
structure ClsN (K : PySem.W.Frag) (C fA fS fW : Addr) : Prop where
  andF : PySem.W.findIn K (.ref C) "__and__" = some (some (.ref fA))
  andI : PySem.W.isFn K (.ref fA) = true
  subF : PySem.W.findIn K (.ref C) "__sub__" = some (some (.ref fS))
  subI : PySem.W.isFn K (.ref fS) = true
  is_within : Meth K C "is_within" fW
abbrev s_Ranges_is_within : Stmt := inClass (top 2) 11
theorem sc_Ranges_is_within : FnScope ["self", "b"] ["self", "b"] (defScope s_Ranges_is_within) := ⟨rfl, rfl, rfl, by decide +kernel, rfl, by decide +kernel, by decide +kernel⟩
def sp_within (C : Addr) : Sp := fun vs H Q _ => ∃ a b ps qs, vs = [.ref a, .ref b] ∧ Rng C H a ps ∧ Rng C H b qs ∧ ps.length + qs.length ≤ 900 ∧ ∀ k H', Same H H' → (k = true ↔ ∀ n, hasL ps n = true → hasL qs n = true) → Q (.bl k) H'
theorem ok_within {fA fS fW fN fB : Addr} {fd : FuncData} (F : Fun K "is_within" "Ranges.is_within" s_Ranges_is_within fW fd) (T : ClsT K mg C fI fE) (CM : ClsM K C mc pe pb po pf ge gb go gf fO) (CN : ClsN K C fA fS fW) (CK : ClsK K C fN fB)
    (R_sub : FnR P w K mg base CX0 5 fS (fun vs H Q E => sp_sub C (vs ++ []) H Q E)) (R_bool : FnR P w K mg base CX0 1 fB (fun vs H Q E => sp_bool C (vs ++ []) H Q E)) :
    FnOk P w K mg base CX0 6 fW fd ["self", "b"] (sp_within C) := by
  refine F.ok sc_Ranges_is_within (fun vs H Q E h => ?_) (fun cdv A outer s H vs Q E hr h => ?_)
  · obtain ⟨a, b, ps, qs, rfl, _⟩ := h
    rfl
  · obtain ⟨a, b, ps, qs, rfl, ra, rb, hz, q⟩ := h
    refine ⟨_, (pss_one (ps_ret (pe_notO R_bool (hr.mono (by decide)) CK.boF CK.boI (pe_op (op_own (op := .Sub) R_sub (hr.mono (by decide)) CM.self CN.subF CN.subI) (pv 0) (pv 1))))), ?_⟩
    obtain ⟨dx, t, ha, _⟩ := id ra
    obtain ⟨dy, u, hb, _⟩ := id rb
    unfold tNotO
    walk_at "rd"
    refine ⟨a, b, _, _, _, _, rfl, rfl, ha, hb, a, b, ps, qs, rfl, ra, rb, hz, fun r H1 rs s1 hr1 hm hl => ?_⟩
    obtain ⟨dz, v, hr2, _⟩ := id hr1
    refine ⟨r, dz, _, rfl, hr2, r, rs, rfl, hr1, _, rfl, ?_⟩
    refine q _ H1 s1 ?_
    rw [Bool.not_not]
    cases rs with
    | nil =>
      refine ⟨fun _ n hn => ?_, fun _ => rfl⟩
      have h3 := hm n
      simp only [hasL_nil, hn, Bool.true_and] at h3
      cases e : hasL qs n with
      | true => rfl
      | false => rw [e] at h3; cases h3
    | cons s rs =>
      refine Iff.intro (fun z => nomatch z) (fun al => ?_)
      obtain ⟨n, hn⟩ := ne_has (hr1.canon.ne s (by simp))
      have h3 := hm n
      rw [hasL_cons, hn, Bool.true_or] at h3
      have h2 := Bool.and_eq_true_iff.mp h3.symm
      rw [al n h2.1] at h2
      exact absurd h2.2 (by decide)
end
end Spk

set_option Elab.async false
set_option linter.all false
set_option maxRecDepth 100000
set_option maxHeartbeats 1000000
namespace Spk
open PySem L2
local macro_rules | `(tactic| walk_at "rd") => `(tactic| repeat (first
  | with_reducible refine i_seq ?_ | with_reducible refine i_asg ?_ | with_reducible refine i_ret ?_ | with_reducible refine i_ifS ?_ | with_reducible refine i_if ?_
  | with_reducible refine i_for ?_ | with_reducible refine i_iL ?_ | with_reducible refine i_iT ?_ | with_reducible refine i_ckw ?_ | with_reducible refine i_cm ?_ | with_reducible refine And.intro (rfl : V.ref _ = V.ref _) ?_ | with_reducible refine i_rng1 ?_ | with_reducible refine i_bm ?_ | with_reducible refine i_bm0 ?_
  | with_reducible refine i_drop ?_ | with_reducible refine i_next ?_
  | with_reducible refine i_var rfl ?_ | with_reducible refine i_c ?_ | with_reducible refine i_op ?_ | with_reducible refine i_un ?_ | with_reducible refine i_name ?_
  | with_reducible refine i_rI0 ?_ | with_reducible refine i_rU ?_ | with_reducible refine i_rEq rfl ?_ | with_reducible refine i_rNe rfl ?_
  | with_reducible refine i_test ?_ | with_reducible refine i_tB ?_ | with_reducible refine i_and ?_ | with_reducible refine i_or ?_ | with_reducible refine i_not ?_
  | with_reducible refine i_andV ?_ | with_reducible refine i_orV ?_ | with_reducible refine i_notV ?_
  | with_reducible refine i_cons ?_ | with_reducible refine i_nil ?_ | with_reducible refine i_cb ?_ | with_reducible refine i_call ?_ | with_reducible refine i_bl ?_
  | with_reducible refine i_tup ?_ | with_reducible refine i_lst ?_ | with_reducible refine i_par ?_ | with_reducible refine i_gcons ?_ | with_reducible refine i_gnil ?_
  | with_reducible refine And.intro (rfl : V.non = V.non) ?_ | with_reducible refine i_ixT (by assumption) rfl ?_ | with_reducible refine i_ixL (by assumption) rfl ?_ | with_reducible refine i_gtup (by assumption) rfl ?_
  | with_reducible refine i_gsub ?_
  | with_reducible refine Or.inl (Exists.intro _ (And.intro (rfl : [V.int _] = [V.int _]) ?_)) | with_reducible refine Exists.intro _ (And.intro (rfl : [V.int _] = [V.int _]) ?_)
  | with_reducible refine Or.inr (Exists.intro _ (And.intro (rfl : [V.bl _] = [V.bl _]) ?_))
  | with_reducible refine Exists.intro _ (Exists.intro _ (And.intro (rfl : [V.int _, V.int _] = [V.int _, V.int _]) ?_))
  | with_reducible refine Exists.intro _ (Exists.intro _ (And.intro (rfl : [V.ref _] = [V.ref _]) (And.intro (Or.inl (SqL.of (by assumption))) ?_)))
  | with_reducible refine i_rI (show (0 : Int) < _ by assumption) ?_ | with_reducible refine i_rI (show (0 : Int) < _ by decide) ?_
  | with_reducible refine i_rI (pow_ok (Nat.le_of_ble_eq_true rfl) (Nat.le_of_ble_eq_true rfl)) ?_
  | with_reducible refine i_rI (cmulL rfl) ?_))
section
variable {P : Program} {w : World} {K : PySem.W.Frag} {mg : Str → Option Value} {base : Heap} {C fI fE : Addr} {mc : Value} {pe pb po pf ge gb go gf fO : Addr}
/-! ### _law_near -/
structure NInv (H0 : Hp) (p L l d : Addr) (n : Nat) (i : Nat) (σ : L2.St) (H : Hp) : Prop where
  ex : ∃ (ts : List Stc) (x y z : Option V), σ = [some (.ref p), some (.ref l), some (.ref d), x, y, z] ∧ Keep H0 H ∧ Pen H p L (n + 60 + 3 * i) ∧ StrL H d ts ∧ (∀ s, s ∈ ts → NE s) ∧ ts.length ≤ 6 + i
/-- behind a look at the pick -/
def NearS (H0 : Hp) (p L l d : Addr) (n i : Nat) (lo hi : Option Int) (pick k : Int) (σ : L2.St) (H : Hp) : Prop := ∃ ts, σ = [some (.ref p), some (.ref l), some (.ref d), some (ov lo), some (ov hi), some (.int pick)] ∧ Keep H0 H ∧ StrL H d ts ∧ (∀ s, s ∈ ts → NE s) ∧
  ((ts.length ≤ 6 + i ∧ Pen H p L (n + 60 + 3 * i + 1)) ∨ (pick ≤ k ∧ ts.length ≤ 7 + i ∧ Pen H p L (n + 60 + 3 * i + 3)))
theorem NearS.next {H0 H : Hp} {p L l d : Addr} {n i : Nat} {lo hi : Option Int} {pick k : Int} {σ : L2.St} (h : NearS H0 p L l d n i lo hi pick k σ H) : NearS H0 p L l d n i lo hi pick (k + 1) σ H := by
  obtain ⟨ts, e, a, b, c, h⟩ := h
  refine ⟨ts, e, a, b, c, h.imp id fun ⟨x, y⟩ => ⟨by omega, y⟩⟩
theorem near_app {H0 H : Hp} {p L l d : Addr} {n i : Nat} {lo hi u v : Option Int} {pick : Int} {ts : List Stc} (hd0 : H0 d = none) (hLd : L ≠ d) (k : Keep H0 H) (sl : StrL H d ts) (hne : ∀ s, s ∈ ts → NE s) (hu : NE (u, v)) (hz : ts.length ≤ 6 + i) (hi' : i ≤ 1000)
    (pn : Pen H p L (n + 60 + 3 * i + 3)) {q : Addr} (hq : H q = none) {R : VK} (hR : ∀ H', NearS H0 p L l d n i lo hi pick pick [some (.ref p), some (.ref l), some (.ref d), some (ov lo), some (ov hi), some (.int pick)] H' → R .non H') :
    rAppend (.ref d) [.ref q] (upd H q (.tup [ov u, ov v])) R := by
  obtain ⟨H1, e1, s1, h1⟩ := new_heap (o := .tup [ov u, ov v]) hq
  rw [e1]
  obtain ⟨vs, hd, tu⟩ := sl
  have hl := tups_len tu
  refine i_app (s1 _ _ hd) (by omega) (hR _ ⟨ts ++ [(u, v)], rfl, ?_, ⟨_, upd_same, ?_⟩, fun s hs => ?_, .inr ⟨Int.le_refl _, ?_, ?_⟩⟩)
  · exact Keep.mut (k.trans (Same.keep s1)) hd0
  · exact Tups.mut (tups_snoc (tu.up s1) ⟨q, rfl, h1⟩) (s1 _ _ hd)
  · rcases List.mem_append.mp hs with hs | hs
    · exact hne s hs
    · rw [List.mem_singleton.mp hs]; exact hu
  · rw [List.length_append, List.length_singleton]
    omega
  · exact Pen.mut (pn.up s1) (s1 _ _ hd) (tu.up s1) hLd
abbrev s_near : Stmt := top 18
theorem sc_near : FnScope ["_law_pen_here", "_law_stretches_here", "_law_found", "_law_low", "_law_high", "_law_pick"] ["_law_pen_here", "_law_stretches_here"] (defScope s_near) := ⟨rfl, rfl, rfl, by decide +kernel, rfl, by decide +kernel, by decide +kernel⟩
def sp_near : Sp := fun vs H Q _ => ∃ p L n l ss, vs = [.ref p, .ref l] ∧ Pen H p L n ∧ n ≤ 5000 ∧ StrL H l ss ∧ ss.length ≤ 60 ∧ (∀ s, s ∈ ss → NE s) ∧
  ∀ d H' ts, Keep H H' → Pen H' p L (n + 60 + 3 * ss.length) → StrL H' d ts → (∀ s, s ∈ ts → NE s) → ts.length ≤ 6 + ss.length → Q (.ref d) H'
theorem ok_near {f fD fS : Addr} {fd fdD fdS : FuncData} (F : Fun K "_law_near" "_law_near" s_near f fd) (F_draw : Fun K "_law_draw" "_law_draw" s_draw fD fdD) (B_draw : Binds K fdD ["_law_pen_here", "_law_many"] []) (g_draw : mg "_law_draw" = some (.ref fD))
    (G_draw : FnOk P w K mg base CX0 1 fD fdD ["_law_pen_here", "_law_many"] sp_draw) (F_stretches : Fun K "_law_stretches" "_law_stretches" s_stretches fS fdS) (B_stretches : Binds K fdS ["_law_pen_here", "_law_most"] []) (g_stretches : mg "_law_stretches" = some (.ref fS))
    (G_stretches : FnOk P w K mg base CX0 3 fS fdS ["_law_pen_here", "_law_most"] sp_stretches) : FnOk P w K mg base CX0 4 f fd ["_law_pen_here", "_law_stretches_here"] sp_near := by
  refine F.ok sc_near (fun vs H Q E h => ?_) (fun cdv A outer s H vs Q E hr h => ?_)
  · obtain ⟨p, L, n, l, ss, rfl, _⟩ := h
    rfl
  · obtain ⟨p, L, n, l, ss, rfl, hp, hn, ⟨us, hl, tu⟩, hz, hne, q⟩ := h
    refine ⟨_, (pss_cons (ps_set (i := 2) sc_near.nd rfl (Or.inl rfl) (pe_call G_stretches (hr.mono (by decide)) rfl g_stretches F_stretches.kp B_stretches .nil pass0 (pa_cons (pv 0) (pa_cons pe_int pa_nil))))
 (pss_cons (ps_for PassesOwn.never rfl (pi_list (pv 1)) (pg_tup (by rfl) (pgs_cons (pg_name (i := 3) sc_near.nd rfl (Or.inl rfl)) (pgs_cons (pg_name (i := 4) sc_near.nd rfl (Or.inl rfl)) pgs_nil)))
 (pss_cons (ps_set (i := 5) sc_near.nd rfl (Or.inl rfl) (pe_call G_draw (hr.mono (by decide)) rfl g_draw F_draw.kp B_draw .nil pass0 (pa_cons (pv 0) (pa_cons pe_int pa_nil))))
 (C8.pss_cut (ps_if (pt_cmpR op_eq (pv 5) pe_int (nomark _))
 (pss_one (ps_expr (pe_bm PySem.F.plainAttrs_list PySem.F.slot_list_append PySem.F.type_list_append mt_append (pv 2) (pa_cons (pe_tup (pa_cons (pv 3) (pa_cons (pv 4) pa_nil))) pa_nil))))
 pss_nil)
 (C8.pss_cut (ps_if (PW.pt (pw_and (pt_cmpR op_eq (pv 5) pe_int (nomark _)) (pw_and (pt_cmpR op_notN (pv 4) pe_non (nomark _)) (pw_and1 (pt_cmpR op_lt (pv 4) (pe_op op_pow pe_int pe_int) (nomark _))))))
 (pss_one (ps_expr (pe_bm PySem.F.plainAttrs_list PySem.F.slot_list_append PySem.F.type_list_append mt_append (pv 2) (pa_cons (pe_tup (pa_cons (pe_op op_sub (pe_op op_add (pv 4) pe_int) (pe_call G_draw (hr.mono (by decide)) rfl g_draw F_draw.kp B_draw .nil pass0 (pa_cons (pv 0) (pa_cons pe_int pa_nil)))) (pa_cons (pe_op op_add (pe_op op_add (pv 4) pe_int) (pe_call G_draw (hr.mono (by decide)) rfl g_draw F_draw.kp B_draw .nil pass0 (pa_cons (pv 0) (pa_cons pe_int pa_nil)))) pa_nil))) pa_nil))))
 pss_nil)
 (C8.pss_cut (ps_if (PW.pt (pw_and (pt_cmpR op_eq (pv 5) pe_int (nomark _)) (pw_and (pt_cmpR op_notN (pv 3) pe_non (nomark _)) (pw_and1 (pt_cmpR op_gt (pv 3) (pe_op op_sub pe_int (pe_op op_pow pe_int pe_int)) (nomark _))))))
 (pss_one (ps_expr (pe_bm PySem.F.plainAttrs_list PySem.F.slot_list_append PySem.F.type_list_append mt_append (pv 2) (pa_cons (pe_tup (pa_cons pe_non (pa_cons (pe_op op_sub (pv 3) (pe_call G_draw (hr.mono (by decide)) rfl g_draw F_draw.kp B_draw .nil pass0 (pa_cons (pv 0) (pa_cons pe_int pa_nil)))) pa_nil))) pa_nil))))
 pss_nil)
 (pss_one (ps_if (PW.pt (pw_and (pt_cmpR op_eq (pv 5) pe_int (nomark _)) (pw_and (pt_cmpR op_notN (pv 3) pe_non (nomark _)) (pw_and1 (pt_cmpR op_notN (pv 4) pe_non (nomark _))))))
 (pss_one (ps_expr (pe_bm PySem.F.plainAttrs_list PySem.F.slot_list_append PySem.F.type_list_append mt_append (pv 2) (pa_cons (pe_tup (pa_cons (pe_op op_add (pv 3) (pe_op op_fdivW (pe_op op_sub (pv 4) (pv 3)) pe_int)) (pa_cons (pv 4) pa_nil))) pa_nil))))
 pss_nil)))))))
 (pss_one (ps_ret (pv 2))))), ?_⟩
    have hlen := tups_len tu
    walk_at "rd"
    refine ⟨p, L, n, 4, rfl, hp, by omega, by decide, by decide, fun d H1 ts hd0 k1 p1 sl1 hne1 hz1 => ?_⟩
    have hLd := hp.ne hd0
    walk_at "rd"
    refine ⟨l, rfl, ⟨_, SqL.of (k1 _ _ (penny_tups tu) hl)⟩, for_list (K := K) (a := l) (xs := us) (NInv H p L l d n) ⟨ts, none, none, none, rfl, k1, p1, sl1, hne1, by omega⟩ ?_ ?_ ?_⟩
    · rintro i σ H2 _ ⟨_, _, _, _, _, k2, _⟩
      exact SqL.of (k2 _ _ (penny_tups tu) hl)
    · rintro i x σ H2 hx ⟨ts, x3, x4, x5, rfl, k2, p2, sl2, hne2, hz2⟩
      obtain ⟨hi, c, rfl, hc⟩ := item_of tu hx
      have hc2 := k2 _ _ rfl hc
      have nex := hne _ (List.getElem_mem hi)
      generalize ss[i] = sx at *
      obtain ⟨lo, hi'⟩ := sx
      dsimp only at hc2
      walk_at "rd"
      refine ⟨p, L, _, 6, rfl, p2, by omega, by decide, by decide, fun pick H3 c0 c1 e3 p3 => ?_⟩
      walk_at "rd"
      have sl3 := sl2.keep e3
      have k3 := k2.trans e3
      clear sl2 p2
      refine ⟨NearS H p L l d n i lo hi' pick 0, ?_, ?_⟩
      · walk_at "rd"
        refine ite_d (fun h => ?_) (fun h => ?_)
        · have e := V.int.inj h
          subst e
          obtain ⟨vs3, hd3, tu3⟩ := id sl3
          walk_at "rd"
          refine i_tyL hd3 ?_
          walk_at "rd"
          refine ⟨size_of (Nat.le_of_ble_eq_true rfl), fun q2 hq2 => ?_⟩
          walk_at "rd"
          refine near_app (l := l) (n := n) (lo := lo) (hi := hi') (pick := 0) hd0 hLd k3 sl3 hne2 nex hz2 (by omega) (p3.mono (by omega)) hq2 fun H' h => ?_
          walk_at "rd"
          exact h
        · walk_at "rd"
          exact ⟨ts, rfl, k3, sl3, hne2, .inl ⟨hz2, p3⟩⟩
      · clear sl3 k3 p3 hne2 hz2
        rintro σ' H4 ⟨ts4, rfl, k4, sl4, hne4, h4⟩
        have stay4 : NearS H p L l d n i lo hi' pick 0 [some (.ref p), some (.ref l), some (.ref d), some (ov lo), some (ov hi'), some (.int pick)] H4 := ⟨ts4, rfl, k4, sl4, hne4, h4⟩
        refine ⟨NearS H p L l d n i lo hi' pick 1, ?_, ?_⟩
        · walk_at "rd"
          refine ite_d (fun h => ?_) (fun h => ?_)
          · have e := V.int.inj h
            subst e
            walk_at "rd"
            cases hi' with
            | none =>
              refine ite_nd (fun h => absurd rfl h) (fun _ => iteF ?_)
              walk_at "rd"
              exact stay4.next
            | some b =>
              refine ite_nd (fun _ => ?_) (fun h => nomatch h)
              walk_at "rd"
              refine ite_d (fun h2 => ?_) (fun h2 => ?_)
              · obtain ⟨hz4, p4⟩ := h4.resolve_right fun z => absurd z.1 (by decide)
                obtain ⟨vs4, hd4, tu4⟩ := id sl4
                walk_at "rd"
                refine i_tyL hd4 ?_
                walk_at "rd"
                refine ⟨p, L, _, 2, rfl, p4, by omega, by decide, by decide, fun d1 H5 a0 a1 e5 p5 => ?_⟩
                walk_at "rd"
                refine ⟨p, L, _, 3, rfl, p5, by omega, by decide, by decide, fun d2 H6 b0 b1 e6 p6 => ?_⟩
                walk_at "rd"
                refine ⟨size_of (Nat.le_of_ble_eq_true rfl), fun q2 hq2 => ?_⟩
                walk_at "rd"
                refine near_app (l := l) (n := n) (lo := lo) (hi := some b) (pick := 1) (u := some (b + 1 - d1)) (v := some (b + 1 + d2)) hd0 hLd ((k4.trans e5).trans e6) ((sl4.keep e5).keep e6) hne4 (fun x y e1 e2 => by cases e1; cases e2; omega) hz4 (by omega) p6 hq2 fun H' h => ?_
                walk_at "rd"
                exact h
              · walk_at "rd"
                exact stay4.next
          · refine iteF ?_
            walk_at "rd"
            exact stay4.next
        · clear stay4 h4 hne4 sl4 k4
          rintro σ' H5 ⟨ts5, rfl, k5, sl5, hne5, h5⟩
          have stay5 : NearS H p L l d n i lo hi' pick 1 [some (.ref p), some (.ref l), some (.ref d), some (ov lo), some (ov hi'), some (.int pick)] H5 := ⟨ts5, rfl, k5, sl5, hne5, h5⟩
          refine ⟨NearS H p L l d n i lo hi' pick 2, ?_, ?_⟩
          · walk_at "rd"
            refine ite_d (fun h => ?_) (fun h => ?_)
            · have e := V.int.inj h
              subst e
              walk_at "rd"
              cases lo with
              | none =>
                refine ite_nd (fun h => absurd rfl h) (fun _ => iteF ?_)
                walk_at "rd"
                exact stay5.next
              | some b =>
                refine ite_nd (fun _ => ?_) (fun h => nomatch h)
                walk_at "rd"
                refine ite_d (fun h2 => ?_) (fun h2 => ?_)
                · obtain ⟨hz4, p4⟩ := h5.resolve_right fun z => absurd z.1 (by decide)
                  obtain ⟨vs4, hd4, tu4⟩ := id sl5
                  walk_at "rd"
                  refine i_tyL hd4 ?_
                  walk_at "rd"
                  refine ⟨p, L, _, 2, rfl, p4, by omega, by decide, by decide, fun d1 H6 a0 a1 e6 p6 => ?_⟩
                  walk_at "rd"
                  refine ⟨size_of (Nat.le_of_ble_eq_true rfl), fun q2 hq2 => ?_⟩
                  walk_at "rd"
                  refine near_app (l := l) (n := n) (lo := some b) (hi := hi') (pick := 2) (u := none) (v := some (b - d1)) hd0 hLd (k5.trans e6) (sl5.keep e6) hne5 (fun x y e1 => nomatch e1) hz4 (by omega) (p6.mono (by omega)) hq2 fun H' h => ?_
                  walk_at "rd"
                  exact h
                · walk_at "rd"
                  exact stay5.next
            · refine iteF ?_
              walk_at "rd"
              exact stay5.next
          · clear stay5 h5 hne5 sl5 k5
            rintro σ' H6 ⟨ts6, rfl, k6, sl6, hne6, h6⟩
            have fin : ∀ (k : Int) (H' : Hp), NearS H p L l d n i lo hi' pick k [some (.ref p), some (.ref l), some (.ref d), some (ov lo), some (ov hi'), some (.int pick)] H' → NInv H p L l d n (i + 1) [some (.ref p), some (.ref l), some (.ref d), some (ov lo), some (ov hi'), some (.int pick)] H' := by
              rintro k H' ⟨ts, _, a, b, c, h⟩
              refine ⟨ts, _, _, _, rfl, a, ?_, b, c, ?_⟩
              · rcases h with ⟨_, p'⟩ | ⟨_, _, p'⟩
                · exact p'.mono (by omega)
                · exact p'.mono (by omega)
              · rcases h with ⟨_, _⟩ | ⟨_, _, _⟩ <;> omega
            have stay6 := fin 2 H6 ⟨ts6, rfl, k6, sl6, hne6, h6⟩
            walk_at "rd"
            refine ite_d (fun h => ?_) (fun h => ?_)
            · have e := V.int.inj h
              subst e
              walk_at "rd"
              cases lo with
              | none =>
                refine ite_nd (fun h => absurd rfl h) (fun _ => iteF ?_)
                walk_at "rd"
                exact stay6
              | some a =>
                refine ite_nd (fun _ => ?_) (fun h => nomatch h)
                walk_at "rd"
                cases hi' with
                | none =>
                  refine ite_nd (fun h => absurd rfl h) (fun _ => ?_)
                  walk_at "rd"
                  exact stay6
                | some b =>
                  refine ite_nd (fun _ => ?_) (fun h => nomatch h)
                  obtain ⟨hz4, p4⟩ := h6.resolve_right fun z => absurd z.1 (by decide)
                  obtain ⟨vs4, hd4, tu4⟩ := id sl6
                  have hab : a ≤ b := nex a b rfl rfl
                  walk_at "rd"
                  refine i_tyL hd4 ?_
                  walk_at "rd"
                  refine i_rI (wide_div (b := 2) (by decide) (by decide) (by decide) (by decide)) ?_
                  walk_at "rd"
                  refine ⟨size_of (Nat.le_of_ble_eq_true rfl), fun q2 hq2 => ?_⟩
                  walk_at "rd"
                  refine near_app (l := l) (n := n) (lo := some a) (hi := some b) (pick := 3) (u := some (a + (b - a) / 2)) (v := some b) hd0 hLd k6 sl6 hne6 (fun x y e1 e2 => by cases e1; cases e2; omega) hz4 (by omega) (p4.mono (by omega)) hq2 fun H' h => ?_
                  walk_at "rd"
                  exact fin 3 H' h
            · refine iteF ?_
              walk_at "rd"
              exact stay6
    · rintro σ H2 ⟨ts, x3, x4, x5, rfl, k2, p2, sl2, hne2, hz2⟩
      walk_at "rd"
      rw [hlen] at p2 hz2
      exact q d H2 ts k2 p2 sl2 hne2 hz2
end
end Spk

set_option Elab.async false
set_option linter.all false
set_option maxRecDepth 100000
set_option maxHeartbeats 1000000
namespace Spk
open PySem L2
local macro_rules | `(tactic| walk_at "rd") => `(tactic| repeat (first
  | with_reducible refine i_seq ?_ | with_reducible refine i_asg ?_ | with_reducible refine i_ret ?_ | with_reducible refine i_ifS ?_ | with_reducible refine i_if ?_
  | with_reducible refine i_for ?_ | with_reducible refine i_iL ?_ | with_reducible refine i_iT ?_ | with_reducible refine i_ckw ?_ | with_reducible refine i_cm ?_ | with_reducible refine And.intro (rfl : V.ref _ = V.ref _) ?_ | with_reducible refine i_rng1 ?_ | with_reducible refine i_bm ?_ | with_reducible refine i_bm0 ?_
  | with_reducible refine i_drop ?_ | with_reducible refine i_next ?_
  | with_reducible refine i_var rfl ?_ | with_reducible refine i_c ?_ | with_reducible refine i_op ?_ | with_reducible refine i_un ?_ | with_reducible refine i_name ?_
  | with_reducible refine i_rI0 ?_ | with_reducible refine i_rU ?_ | with_reducible refine i_rEq rfl ?_ | with_reducible refine i_rNe rfl ?_
  | with_reducible refine i_test ?_ | with_reducible refine i_tB ?_ | with_reducible refine i_and ?_ | with_reducible refine i_or ?_ | with_reducible refine i_not ?_
  | with_reducible refine i_andV ?_ | with_reducible refine i_orV ?_ | with_reducible refine i_notV ?_
  | with_reducible refine i_cons ?_ | with_reducible refine i_nil ?_ | with_reducible refine i_cb ?_ | with_reducible refine i_call ?_ | with_reducible refine i_bl ?_
  | with_reducible refine i_tup ?_ | with_reducible refine i_lst ?_ | with_reducible refine i_par ?_ | with_reducible refine i_gcons ?_ | with_reducible refine i_gnil ?_
  | with_reducible refine And.intro (rfl : V.non = V.non) ?_ | with_reducible refine i_ixT (by assumption) rfl ?_ | with_reducible refine i_ixL (by assumption) rfl ?_ | with_reducible refine i_gtup (by assumption) rfl ?_
  | with_reducible refine i_gsub ?_
  | with_reducible refine Or.inl (Exists.intro _ (And.intro (rfl : [V.int _] = [V.int _]) ?_)) | with_reducible refine Exists.intro _ (And.intro (rfl : [V.int _] = [V.int _]) ?_)
  | with_reducible refine Or.inr (Exists.intro _ (And.intro (rfl : [V.bl _] = [V.bl _]) ?_))
  | with_reducible refine Exists.intro _ (Exists.intro _ (And.intro (rfl : [V.int _, V.int _] = [V.int _, V.int _]) ?_))
  | with_reducible refine Exists.intro _ (Exists.intro _ (And.intro (rfl : [V.ref _] = [V.ref _]) (And.intro (Or.inl (SqL.of (by assumption))) ?_)))
  | with_reducible refine i_rI (show (0 : Int) < _ by assumption) ?_ | with_reducible refine i_rI (show (0 : Int) < _ by decide) ?_
  | with_reducible refine i_rI (pow_ok (Nat.le_of_ble_eq_true rfl) (Nat.le_of_ble_eq_true rfl)) ?_
  | with_reducible refine i_rI (cmulL rfl) ?_))
section
variable {P : Program} {w : World} {K : PySem.W.Frag} {mg : Str → Option Value} {base : Heap} {C fI fE : Addr} {mc : Value} {pe pb po pf ge gb go gf fO : Addr}
theorem orVar {σ : L2.St} {H : Hp} {Q : VK} {i j : Nat} {x y : Bool} (h1 : σ[i]? = some (some (.bl x))) (h2 : σ[j]? = some (some (.bl y))) (q : Q (.bl (x || y)) H) : tOrV (tVar i) (tVar j) σ H Q := by
  refine ⟨_, h1, x, rfl, ?_⟩
  cases x
  · exact ⟨_, h2, q⟩
  · exact q
theorem andVar {σ : L2.St} {H : Hp} {Q : VK} {i j : Nat} {x y : Bool} (h1 : σ[i]? = some (some (.bl x))) (h2 : σ[j]? = some (some (.bl y))) (q : Q (.bl (x && y)) H) : tAndV (tVar i) (tVar j) σ H Q := by
  refine ⟨_, h1, x, rfl, ?_⟩
  cases x
  · exact q
  · exact ⟨_, h2, q⟩
theorem andNot {σ : L2.St} {H : Hp} {Q : VK} {i j : Nat} {x y : Bool} (h1 : σ[i]? = some (some (.bl x))) (h2 : σ[j]? = some (some (.bl y))) (q : Q (.bl (x && !y)) H) : tAndV (tVar i) (tNotV (tVar j)) σ H Q := by
  refine ⟨_, h1, x, rfl, ?_⟩
  cases x
  · exact q
  · exact ⟨_, h2, y, rfl, q⟩
/-- the words of the law and what they say -/
inductive WordOk : Str → (Bool → Bool → Bool) → Prop where
  | either : WordOk "either" (fun x y => x || y)
  | common : WordOk "common" (fun x y => x && y)
  | less : WordOk "less" (fun x y => x && !y)
structure OutInv (H0 : Hp) (f a b : Addr) (wd : Str) (i : Nat) (σ : L2.St) (H : Hp) : Prop where
  ex : ∃ (x4 x5 x6 x7 : Option V), σ = [some (.ref f), some (.ref a), some (.ref b), some (.str wd), x4, x5, x6, x7] ∧ Same H0 H
abbrev s_outcome_right : Stmt := top 19
theorem sc_outcome_right : FnScope ["_law_found", "_law_one", "_law_other", "_law_word", "_law_number", "_law_first", "_law_second", "_law_due"] ["_law_found", "_law_one", "_law_other", "_law_word"] (defScope s_outcome_right) := ⟨rfl, rfl, rfl, by decide +kernel, rfl, by decide +kernel, by decide +kernel⟩
def sp_outcome (C : Addr) : Sp := fun vs H Q _ => ∃ f a b wd ps ss ts g, vs = [.ref f, .ref a, .ref b, .str wd] ∧ Rng C H f ps ∧ StrL H a ss ∧ StrL H b ts ∧ ps.length ≤ 300 ∧ ss.length ≤ 300 ∧ ts.length ≤ 300 ∧ WordOk wd g ∧ (∀ n, hasL ps n = g (hasL ss n) (hasL ts n)) ∧ ∀ H', Same H H' → Q (.bl true) H'
theorem ok_outcome {f fJ fP fH fN fB : Addr} {fd fdJ fdP fdH : FuncData} (F : Fun K "_law_outcome_right" "_law_outcome_right" s_outcome_right f fd) (T : ClsT K mg C fI fE) (CK : ClsK K C fN fB)
    (R_contains : FnR P w K mg base CX0 2 fN (fun vs H Q E => sp_contains K C (vs ++ []) H Q E))
    (F_is_joined : Fun K "_law_is_joined" "_law_is_joined" s_is_joined fJ fdJ) (B_is_joined : Binds K fdJ ["_law_parts"] []) (g_is_joined : mg "_law_is_joined" = some (.ref fJ)) (G_is_joined : FnOk P w K mg base CX0 1 fJ fdJ ["_law_parts"] sp_is_joined)
    (F_points : Fun K "_law_points" "_law_points" s_points fP fdP) (B_points : Binds K fdP ["_law_stretches_here"] []) (g_points : mg "_law_points" = some (.ref fP)) (G_points : FnOk P w K mg base CX0 1 fP fdP ["_law_stretches_here"] sp_points)
    (F_has : Fun K "_law_has" "_law_has" s_has fH fdH) (B_has : Binds K fdH ["_law_stretches_here", "_law_number"] []) (g_has : mg "_law_has" = some (.ref fH)) (G_has : FnOk P w K mg base CX0 1 fH fdH ["_law_stretches_here", "_law_number"] sp_has)
    (z_list : mg "list" = none) : FnOk P w K mg base CX0 4 f fd ["_law_found", "_law_one", "_law_other", "_law_word"] (sp_outcome C) := by
  refine F.ok sc_outcome_right (fun vs H Q E h => ?_) (fun cdv A outer s H vs Q E hr h => ?_)
  · obtain ⟨f, a, b, wd, ps, ss, ts, g, rfl, _⟩ := h
    rfl
  · obtain ⟨f, a, b, wd, ps, ss, ts, g, rfl, ra, sa, sb, z1, z2, z3, hw, hm, q⟩ := h
    refine ⟨_, (pss_cons (ps_if (pt_not (pt_val (pe_call G_is_joined (hr.mono (by decide)) rfl g_is_joined F_is_joined.kp B_is_joined .nil pass0 (pa_cons (pe_fld (pv 0) rfl) pa_nil))))
 (pss_one (ps_ret pe_bl))
 pss_nil)
 (pss_cons (ps_for PassesOwn.never rfl (pi_list (pe_call G_points (hr.mono (by decide)) rfl g_points F_points.kp B_points .nil pass0 (pa_cons (pe_op op_cat (pe_op op_cat (pv 1) (pv 2)) (pe_callTy call_list_of (by rfl) z_list (by decide +kernel) (pa_cons (pe_fld (pv 0) rfl) pa_nil))) pa_nil))) (pg_name (i := 4) sc_outcome_right.nd rfl (Or.inl rfl))
 (pss_cons (ps_par (i := 5) (j := 6) (by rfl) sc_outcome_right.nd rfl rfl (by decide) rfl rfl (pa_cons (pe_call G_has (hr.mono (by decide)) rfl g_has F_has.kp B_has .nil pass0 (pa_cons (pv 1) (pa_cons (pv 4) pa_nil))) (pa_cons (pe_call G_has (hr.mono (by decide)) rfl g_has F_has.kp B_has .nil pass0 (pa_cons (pv 2) (pa_cons (pv 4) pa_nil))) pa_nil)) (by rfl))
 (pss_cons (ps_set (i := 7) sc_outcome_right.nd rfl (Or.inl rfl) (pe_or (pv 5) (pe_one (pv 6))))
 (C8.pss_cut (ps_if (pt_cmpR op_eq (pv 3) pe_str (nomark _))
 (pss_one (ps_set (i := 7) sc_outcome_right.nd rfl (Or.inl rfl) (pe_and (pv 5) (pe_one (pv 6)))))
 pss_nil)
 (C8.pss_cut (ps_if (pt_cmpR op_eq (pv 3) pe_str (nomark _))
 (pss_one (ps_set (i := 7) sc_outcome_right.nd rfl (Or.inl rfl) (pe_and (pv 5) (pe_one (pe_not (pv 6))))))
 pss_nil)
 (pss_one (ps_if (PW.pt (pw_or (pt_cmpR op_ne (pe_cmpR (op_inO R_contains (hr.mono (by decide)) CK.inF CK.inI) (pv 4) (pv 0) (by rfl)) (pv 7) (nomark _)) (pw_or1 (pt_cmpR op_ne (pe_call G_has (hr.mono (by decide)) rfl g_has F_has.kp B_has .nil pass0 (pa_cons (pe_callTy call_list_of (by rfl) z_list (by decide +kernel) (pa_cons (pe_fld (pv 0) rfl) pa_nil)) (pa_cons (pv 4) pa_nil))) (pv 7) (nomark _)))))
 (pss_one (ps_ret pe_bl))
 pss_nil)))))))
 (pss_one (ps_ret pe_bl)))), ?_⟩
    obtain ⟨dx, t, ha, ⟨vs, ht, tu⟩, hc⟩ := id ra
    have hlen := tups_len tu
    walk_at "rd"
    refine ⟨_, rfl, f, C, dx, _, _, rfl, ha, T.cl, T.nP, lk_parts, ?_⟩
    walk_at "rd"
    refine ⟨t, ps, rfl, ⟨vs, ht, tu⟩, hc, fun H1 s1 => ?_⟩
    refine ⟨true, rfl, iteF ?_⟩
    walk_at "rd"
    obtain ⟨us, hus, tus⟩ := sa.up s1
    obtain ⟨ws, hws, tws⟩ := sb.up s1
    have l1 := tups_len tus
    have l2 := tups_len tws
    refine ⟨a, b, us, ws, rfl, rfl, hus, hws, size_of (by omega), fun r1 hr1 => ?_⟩
    obtain ⟨H2, e2, s2, h2⟩ := new_heap (o := .lst (us ++ ws)) hr1
    rw [e2]
    have s02 : Same H H2 := fun b o z => s2 _ _ (s1 _ _ z)
    walk_at "rd"
    refine ⟨_, rfl, f, C, dx, _, _, rfl, s02 _ _ ha, T.cl, T.nP, lk_parts, ?_⟩
    walk_at "rd"
    refine ⟨t, vs, rfl, .inr (SqT.of (s02 _ _ ht)), fun r2 hr2 => ?_⟩
    obtain ⟨H3, e3, s3, h3⟩ := new_heap (o := .lst vs) hr2
    rw [e3]
    have s03 : Same H H3 := fun b o z => s3 _ _ (s02 _ _ z)
    refine ⟨r1, r2, us ++ ws, vs, rfl, rfl, s3 _ _ h2, h3, size_of (by rw [List.length_append]; omega), fun r3 hr3 => ?_⟩
    obtain ⟨H4, e4, s4, h4⟩ := new_heap (o := .lst (us ++ ws ++ vs)) hr3
    rw [e4]
    have s04 : Same H H4 := fun b o z => s4 _ _ (s03 _ _ z)
    have s14 : Same H1 H4 := fun b o z => s4 _ _ (s3 _ _ (s2 _ _ z))
    walk_at "rd"
    refine ⟨r3, ss ++ ts ++ ps, rfl, ⟨_, h4, tups_append (tups_append (tus.up s14) (tws.up s14)) (tu.up s04)⟩, by rw [List.length_append, List.length_append]; omega, fun p H5 s5 hp => ?_⟩
    have s05 : Same H H5 := fun b o z => s5 _ _ (s04 _ _ z)
    refine ⟨p, rfl, ⟨_, SqL.of hp⟩, for_list (K := K) (a := p) (xs := (points (ss ++ ts ++ ps)).map V.int) (OutInv H5 f a b wd) ⟨none, none, none, none, rfl, Same.refl _⟩ ?_ ?_ ?_⟩
    · rintro i σ H' _ ⟨_, _, _, _, _, sm⟩
      exact SqL.of (sm _ _ hp)
    · rintro i x σ H6 hx ⟨x4, x5, x6, x7, rfl, s56⟩
      have hi : i < (points (ss ++ ts ++ ps)).length := by
        have := (List.getElem?_eq_some_iff.mp hx).1
        simpa using this
      have ex : x = .int (points (ss ++ ts ++ ps))[i] := by
        rw [List.getElem?_map, List.getElem?_eq_getElem hi] at hx
        exact (Option.some.inj hx).symm
      subst ex
      generalize (points (ss ++ ts ++ ps))[i] = n
      have s06 : Same H H6 := fun b o z => s56 _ _ (s05 _ _ z)
      walk_at "rd"
      refine ⟨a, n, ss, rfl, sa.up s06, ?_⟩
      walk_at "rd"
      refine ⟨b, n, ts, rfl, sb.up s06, ?_⟩
      refine ⟨_, _, rfl, ?_⟩
      refine i_seq (i_asg (orVar rfl rfl (i_name ?_)))
      have hmn := hm n
      generalize hasL ss n = x at *
      generalize hasL ts n = y at *
      refine i_next ?_
      refine ⟨fun σ' H' => σ' = [some (.ref f), some (.ref a), some (.ref b), some (.str wd), some (.int n), some (.bl x), some (.bl y), some (.bl (if wd = "common" then x && y else x || y))] ∧ H' = H6, ?_, ?_⟩
      · walk_at "rd"
        refine ite_d (fun h => ?_) (fun h => ?_)
        · rw [if_pos (V.str.inj h)]
          refine i_asg (andVar rfl rfl (i_name ?_))
          exact ⟨rfl, rfl⟩
        · rw [if_neg fun e => h (by rw [e])]
          walk_at "rd"
          exact ⟨rfl, rfl⟩
      · rintro σ' H7 ⟨rfl, e⟩
        subst e
        refine ⟨fun σ' H' => σ' = [some (.ref f), some (.ref a), some (.ref b), some (.str wd), some (.int n), some (.bl x), some (.bl y), some (.bl (g x y))] ∧ H' = H7, ?_, ?_⟩
        · walk_at "rd"
          refine ite_d (fun h => ?_) (fun h => ?_)
          · refine i_asg (andNot rfl rfl (i_name ?_))
            have e := V.str.inj h
            refine ⟨?_, rfl⟩
            cases hw with
            | either => exact absurd e (by decide)
            | common => exact absurd e (by decide)
            | less => rfl
          · walk_at "rd"
            refine ⟨?_, rfl⟩
            cases hw with
            | either => rfl
            | common => rfl
            | less => exact absurd rfl h
        · rintro σ' H7 ⟨rfl, e⟩
          subst e
          walk_at "rd"
          refine ⟨f, dx, _, rfl, s06 _ _ ha, f, _, ps, _, rfl, ra.up s06, .inl ⟨n, rfl, rfl⟩, _, rfl, ?_⟩
          rw [hmn]
          walk_at "rd"
          refine ite_nd (fun h => absurd rfl h) (fun _ => ?_)
          walk_at "rd"
          refine ⟨_, rfl, f, C, dx, _, _, rfl, s06 _ _ ha, T.cl, T.nP, lk_parts, ?_⟩
          walk_at "rd"
          refine ⟨t, vs, rfl, .inr (SqT.of (s06 _ _ ht)), fun r4 hr4 => ?_⟩
          obtain ⟨H8, e8, s8, h8⟩ := new_heap (o := .lst vs) hr4
          rw [e8]
          walk_at "rd"
          refine ⟨r4, n, ps, rfl, ⟨vs, h8, (tu.up s06).up s8⟩, ?_⟩
          rw [hmn]
          walk_at "rd"
          refine ite_nd (fun h => absurd rfl h) (fun _ => ?_)
          walk_at "rd"
          exact ⟨_, _, _, _, rfl, fun b o z => s8 _ _ (s56 _ _ z)⟩
    · rintro σ H' ⟨_, _, _, _, rfl, sm⟩
      walk_at "rd"
      exact q H' fun b o z => sm _ _ (s05 _ _ z)
/-! ### _law_is_less -/
theorem less_all {a b : List Stc} (h : ∀ m, m ∈ points (a ++ b) → hasL a m = true → hasL b m = true) (n : Int) (hn : hasL a n = true) : hasL b n = true := by
  obtain ⟨m, hm, hc⟩ := point_of (a ++ b) n
  rw [cuts_append] at hc
  rw [hasL_by_cuts (ss := a) fun c q => hc c (List.mem_append_left _ q)] at hn
  rw [hasL_by_cuts (ss := b) fun c q => hc c (List.mem_append_right _ q)]
  exact h m hm hn
structure FInv (H0 : Hp) (D : Addr) (ns : List Int) (p : Int → Bool) (i : Nat) (H : Hp) : Prop where
  ex : Same H0 H ∧ H D = some (.lst (((ns.take i).filter p).map V.int))
theorem filter_take {ns : List Int} {p : Int → Bool} {i : Nat} (hi : i < ns.length) : (ns.take (i + 1)).filter p = (ns.take i).filter p ++ if p ns[i] = true then [ns[i]] else [] := by
  rw [List.take_succ_eq_append_getElem hi, List.filter_append]
  congr 1
  by_cases h : p ns[i] = true
  · rw [if_pos h]
    simp [h]
  · rw [if_neg h]
    simp [h]
theorem filter_le (ns : List Int) (p : Int → Bool) (i : Nat) : ((ns.take i).filter p).length ≤ ns.length :=
  Nat.le_trans (List.length_filter_le _ _) (by rw [List.length_take]; omega)
theorem int_of {ns : List Int} {i : Nat} {x : V} (hx : (ns.map V.int)[i]? = some x) : ∃ (hi : i < ns.length), x = .int ns[i] := by
  have hi : i < ns.length := by
    have := (List.getElem?_eq_some_iff.mp hx).1
    simpa using this
  refine ⟨hi, ?_⟩
  rw [List.getElem?_map, List.getElem?_eq_getElem hi] at hx
  exact (Option.some.inj hx).symm
theorem points_len (ss : List Stc) : (points ss).length ≤ 5 + 6 * ss.length := by
  have h := pts_len ss
  unfold points
  rw [List.length_append]
  simp only [List.length_cons, List.length_nil]
  omega
abbrev s_is_less : Stmt := top 20
theorem sc_is_less : FnScope ["_law_one", "_law_other", "_law_mine", "_law_number"] ["_law_one", "_law_other"] (defScope s_is_less) := ⟨rfl, rfl, rfl, by decide +kernel, rfl, by decide +kernel, by decide +kernel⟩
def sp_is_less : Sp := fun vs H Q _ => ∃ a b ss ts, vs = [.ref a, .ref b] ∧ StrL H a ss ∧ StrL H b ts ∧ ss.length ≤ 400 ∧ ts.length ≤ 400 ∧ ∀ k H', Same H H' → (k = true ↔ ∀ n, hasL ss n = true → hasL ts n = true) → Q (.bl k) H'
theorem ok_is_less {f fP fH : Addr} {fd fdP fdH : FuncData} (F : Fun K "_law_is_less" "_law_is_less" s_is_less f fd)
    (F_points : Fun K "_law_points" "_law_points" s_points fP fdP) (B_points : Binds K fdP ["_law_stretches_here"] []) (g_points : mg "_law_points" = some (.ref fP)) (G_points : FnOk P w K mg base CX0 1 fP fdP ["_law_stretches_here"] sp_points)
    (F_has : Fun K "_law_has" "_law_has" s_has fH fdH) (B_has : Binds K fdH ["_law_stretches_here", "_law_number"] []) (g_has : mg "_law_has" = some (.ref fH)) (G_has : FnOk P w K mg base CX0 1 fH fdH ["_law_stretches_here", "_law_number"] sp_has) :
    FnOk P w K mg base CX0 2 f fd ["_law_one", "_law_other"] sp_is_less := by
  refine F.ok sc_is_less (fun vs H Q E h => ?_) (fun cdv A outer s H vs Q E hr h => ?_)
  · obtain ⟨a, b, ss, ts, rfl, _⟩ := h
    rfl
  · obtain ⟨a, b, ss, ts, rfl, sa, sb, z1, z2, q⟩ := h
    refine ⟨_, (pss_cons (ps_setLc (i := 2) (own := [("_law_number", 3)]) (g := gName 3) rfl sc_is_less.nd rfl rfl (sw_true rfl rfl rfl (by decide +kernel)) (pi_list (pe_call G_points (hr.mono (by decide)) rfl g_points F_points.kp B_points .nil pass0 (pa_cons (pe_op op_cat (pv 0) (pv 1)) pa_nil))) (blkOk_by (own := [("_law_number", 3)]) (N := ["_law_one", "_law_other", "_law_mine", "_law_number"]) (sc := defScope s_is_less) (by decide +kernel)) (fun _ _ _ _ _ => pg_name (i := 3) sc_is_less.nd rfl (Or.inl rfl)) (fun _ _ _ _ _ => pts_one (pt_val (pe_call G_has (hr.mono (by decide)) rfl g_has F_has.kp B_has .nil pass0 (pa_cons (pv 0) (pa_cons (pv 3) pa_nil))))) (fun _ _ _ _ _ => (pv 3)))
 (pss_one (ps_ret (pe_cmpR (op_eqD hr.units) (pe_lc (own := [("_law_number", 3)]) (g := gName 3) rfl sc_is_less.nd (pi_list (pv 2)) (blkOk_by (own := [("_law_number", 3)]) (N := ["_law_one", "_law_other", "_law_mine", "_law_number"]) (sc := defScope s_is_less) (by decide +kernel)) (fun _ _ _ _ _ => pg_name (i := 3) sc_is_less.nd rfl (Or.inl rfl)) (fun _ _ _ _ _ => pts_one (pt_not (pt_val (pe_call G_has (hr.mono (by decide)) rfl g_has F_has.kp B_has .nil pass0 (pa_cons (pv 1) (pa_cons (pv 3) pa_nil)))))) (fun _ _ _ _ _ => (pv 3))) (pe_lst pa_nil) (nomark _))))), ?_⟩
    obtain ⟨us, hus, tus⟩ := id sa
    obtain ⟨ws, hws, tws⟩ := id sb
    have l1 := tups_len tus
    have l2 := tups_len tws
    walk_at "rd"
    unfold tLc
    walk_at "rd"
    refine ⟨a, b, us, ws, rfl, rfl, hus, hws, size_of (by omega), fun r hr => ?_⟩
    obtain ⟨H1, e1, s1, h1⟩ := new_heap (o := .lst (us ++ ws)) hr
    rw [e1]
    walk_at "rd"
    refine ⟨r, ss ++ ts, rfl, ⟨_, h1, tups_append (tus.up s1) (tws.up s1)⟩, by rw [List.length_append]; omega, fun p H2 s2 hp => ?_⟩
    have s02 : Same H H2 := fun b o z => s2 _ _ (s1 _ _ z)
    have pl := points_len (ss ++ ts)
    rw [List.length_append] at pl
    have key := less_all (a := ss) (b := ts)
    generalize points (ss ++ ts) = ns at *
    refine ⟨p, rfl, ⟨_, SqL.of hp⟩, fun D hD => ?_⟩
    obtain ⟨H3, e3, s3, h3⟩ := new_heap (o := .lst []) hD
    refine lc_list (K := K) (a := p) (xs := ns.map V.int) (FInv H2 D ns (hasL ss)) ⟨by rw [e3]; exact s3, by rw [e3]; exact h3⟩ ?_ ?_ ?_
    · rintro i H' _ ⟨sm, _⟩
      exact SqL.of (sm _ _ hp)
    · rintro i x H4 hx ⟨s4, h4⟩
      obtain ⟨hi, rfl⟩ := int_of hx
      have s04 : Same H H4 := fun b o z => s4 _ _ (s02 _ _ z)
      have ft := filter_take (p := hasL ss) hi
      have fl := filter_le ns (hasL ss) i
      generalize ns[i] = n at *
      walk_at "rd"
      refine ⟨rfl, ?_⟩
      walk_at "rd"
      refine ⟨a, n, ss, rfl, sa.up s04, ?_⟩
      refine ⟨_, rfl, ?_⟩
      cases e : hasL ss n with
      | true =>
        rw [e, if_pos rfl] at ft
        refine iteT ?_
        walk_at "rd"
        refine ⟨_, h4, size_lt (by rw [List.length_map]; omega), ⟨Same.mut s4 hD, ?_⟩⟩
        rw [upd_same, ft, List.map_append]
        rfl
      | false =>
        rw [e, if_neg (by decide), List.append_nil] at ft
        refine iteF ?_
        exact ⟨s4, by rw [ft]; exact h4⟩
    · rintro H4 ⟨s4, h4⟩
      rw [List.length_map, List.take_length] at h4
      have ml : (ns.filter (hasL ss)).length ≤ ns.length := List.length_filter_le _ _
      have mm : ∀ n, n ∈ ns.filter (hasL ss) ↔ n ∈ ns ∧ hasL ss n = true := fun n => List.mem_filter
      generalize ns.filter (hasL ss) = ms at *
      have s04 : Same H H4 := fun b o z => s4 _ _ (s02 _ _ z)
      walk_at "rd"
      refine ⟨D, rfl, ⟨_, SqL.of h4⟩, fun D2 hD2 => ?_⟩
      obtain ⟨H5, e5, s5, h5⟩ := new_heap (o := .lst []) hD2
      refine lc_list (K := K) (a := D) (xs := ms.map V.int) (FInv H4 D2 ms (fun n => !hasL ts n)) ⟨by rw [e5]; exact s5, by rw [e5]; exact h5⟩ ?_ ?_ ?_
      · rintro i H' _ ⟨sm, _⟩
        exact SqL.of (sm _ _ h4)
      · rintro i x H6 hx ⟨s6, h6⟩
        obtain ⟨hi, rfl⟩ := int_of hx
        have s06 : Same H H6 := fun b o z => s6 _ _ (s04 _ _ z)
        have ft := filter_take (p := fun n => !hasL ts n) hi
        have fl := filter_le ms (fun n => !hasL ts n) i
        generalize ms[i] = n at *
        walk_at "rd"
        refine ⟨rfl, ?_⟩
        walk_at "rd"
        refine ⟨b, n, ts, rfl, sb.up s06, ?_⟩
        refine ⟨_, rfl, ?_⟩
        cases e : hasL ts n with
        | true =>
          rw [e, if_neg (by decide), List.append_nil] at ft
          refine iteF ?_
          exact ⟨s6, by rw [ft]; exact h6⟩
        | false =>
          rw [e, if_pos (show (!false) = true from rfl)] at ft
          refine iteT ?_
          walk_at "rd"
          refine ⟨_, h6, size_lt (by rw [List.length_map]; omega), ⟨Same.mut s6 hD2, ?_⟩⟩
          rw [upd_same, ft, List.map_append]
          rfl
      · rintro H6 ⟨s6, h6⟩
        rw [List.length_map, List.take_length] at h6
        walk_at "rd"
        refine ⟨Nat.zero_le _, fun r2 hr2 => ?_⟩
        obtain ⟨H7, e7, s7, h7⟩ := new_heap (o := .lst []) hr2
        rw [e7]
        refine ⟨.list ((ms.filter fun n => !hasL ts n).map PyData.int), .list (([] : List Int).map PyData.int), .lst (SqL.of (s7 _ _ h6)) (dps_ints _), .lst (SqL.of h7) .nil, shaped_ints _, shaped_ints [], ?_⟩
        rw [show PyData.eqv (.list ((ms.filter fun n => !hasL ts n).map PyData.int)) (.list (([] : List Int).map PyData.int)) = decide ((ms.filter fun n => !hasL ts n) = []) from eqv_ints _ []]
        refine q _ H7 (fun b o z => s7 _ _ (s6 _ _ (s04 _ _ z))) ?_
        rw [decide_eq_true_eq, List.filter_eq_nil_iff]
        constructor
        · intro al
          refine key fun m hm hs => ?_
          have := al m ((mm m).mpr ⟨hm, hs⟩)
          simpa using this
        · intro al n hn
          have := al n ((mm n).mp hn).2
          simp [this]
end
end Spk

set_option Elab.async false
set_option linter.all false
set_option maxRecDepth 100000
set_option maxHeartbeats 1000000
namespace Spk
open PySem L2
local macro_rules | `(tactic| walk_at "rd") => `(tactic| repeat (first
  | with_reducible refine i_seq ?_ | with_reducible refine i_asg ?_ | with_reducible refine i_ret ?_ | with_reducible refine i_ifS ?_ | with_reducible refine i_if ?_
  | with_reducible refine i_for ?_ | with_reducible refine i_iL ?_ | with_reducible refine i_iT ?_ | with_reducible refine i_ckw ?_ | with_reducible refine i_cm ?_ | with_reducible refine And.intro (rfl : V.ref _ = V.ref _) ?_ | with_reducible refine i_rng1 ?_ | with_reducible refine i_bm ?_ | with_reducible refine i_bm0 ?_
  | with_reducible refine i_drop ?_ | with_reducible refine i_next ?_
  | with_reducible refine i_var rfl ?_ | with_reducible refine i_c ?_ | with_reducible refine i_op ?_ | with_reducible refine i_un ?_ | with_reducible refine i_name ?_
  | with_reducible refine i_rI0 ?_ | with_reducible refine i_rU ?_ | with_reducible refine i_rEq rfl ?_ | with_reducible refine i_rNe rfl ?_
  | with_reducible refine i_test ?_ | with_reducible refine i_tB ?_ | with_reducible refine i_and ?_ | with_reducible refine i_or ?_ | with_reducible refine i_not ?_
  | with_reducible refine i_andV ?_ | with_reducible refine i_orV ?_ | with_reducible refine i_notV ?_
  | with_reducible refine i_cons ?_ | with_reducible refine i_nil ?_ | with_reducible refine i_cb ?_ | with_reducible refine i_call ?_ | with_reducible refine i_bl ?_
  | with_reducible refine i_tup ?_ | with_reducible refine i_lst ?_ | with_reducible refine i_par ?_ | with_reducible refine i_gcons ?_ | with_reducible refine i_gnil ?_
  | with_reducible refine And.intro (rfl : V.non = V.non) ?_ | with_reducible refine i_ixT (by assumption) rfl ?_ | with_reducible refine i_ixL (by assumption) rfl ?_ | with_reducible refine i_gtup (by assumption) rfl ?_
  | with_reducible refine i_gsub ?_
  | with_reducible refine Or.inl (Exists.intro _ (And.intro (rfl : [V.int _] = [V.int _]) ?_)) | with_reducible refine Exists.intro _ (And.intro (rfl : [V.int _] = [V.int _]) ?_)
  | with_reducible refine Or.inr (Exists.intro _ (And.intro (rfl : [V.bl _] = [V.bl _]) ?_))
  | with_reducible refine Exists.intro _ (Exists.intro _ (And.intro (rfl : [V.int _, V.int _] = [V.int _, V.int _]) ?_))
  | with_reducible refine Exists.intro _ (Exists.intro _ (And.intro (rfl : [V.ref _] = [V.ref _]) (And.intro (Or.inl (SqL.of (by assumption))) ?_)))
  | with_reducible refine i_rI (show (0 : Int) < _ by assumption) ?_ | with_reducible refine i_rI (show (0 : Int) < _ by decide) ?_
  | with_reducible refine i_rI (pow_ok (Nat.le_of_ble_eq_true rfl) (Nat.le_of_ble_eq_true rfl)) ?_
  | with_reducible refine i_rI (cmulL rfl) ?_))
section
variable {P : Program} {w : World} {K : PySem.W.Frag} {mg : Str → Option Value} {base : Heap} {C fI fE : Addr} {mc : Value} {pe pb po pf ge gb go gf fO fA fS fW fN fB : Addr}
theorem self_nf : PySem.W.notFirst K C (.ref C) = true := by simp [PySem.W.notFirst]
theorem lk_none {t : Addr} : ([("parts", V.ref t)] : List (Str × V)).lookup ("is_within" : Str) = none := by
  show (match (("is_within" : Str) == "parts") with | true => some (V.ref t) | false => none) = none
  rw [show (("is_within" : Str) == "parts") = false by decide +kernel]
/-! ### expressions that tell sets -/
/-- the value is a set with the integers that g tells, of at most n parts -/
def Ev (C : Addr) (te : TE) (σ : L2.St) (H0 : Hp) (g : Int → Bool) (n : Nat) : Prop := ∀ (H : Hp), Same H0 H → ∀ Q : VK, (∀ r H' ps, Same H H' → Rng C H' r ps → (∀ k, hasL ps k = g k) → ps.length ≤ n → Q (.ref r) H') → te σ H Q
abbrev mOr (C : Addr) : Sp := fun vs H Q E => sp_or C (vs ++ []) H Q E
abbrev mAnd (C : Addr) : Sp := fun vs H Q E => sp_and C (vs ++ []) H Q E
abbrev mSub (C : Addr) : Sp := fun vs H Q E => sp_sub C (vs ++ []) H Q E
abbrev mEq (C : Addr) : Sp := fun vs H Q E => sp_eq C (vs ++ []) H Q E
abbrev mWi (C : Addr) : Sp := fun vs H Q E => sp_within C (vs ++ []) H Q E
section
variable {σ : L2.St} {H0 : Hp} {ta tb : TE} {g h : Int → Bool} {n m : Nat}
theorem ev_var {i : Nat} {r : Addr} {ps : List Stc} (e : σ[i]? = some (some (.ref r))) (hr : Rng C H0 r ps) (hz : ps.length ≤ n) : Ev C (tVar i) σ H0 (hasL ps) n := fun H sm Q q => ⟨_, e, q r H ps (Same.refl H) (hr.up sm) (fun _ => rfl) hz⟩
theorem ev_bin {sp : Sp} {f : Bool → Bool → Bool} {d : Nat} (a : Ev C ta σ H0 g n) (b : Ev C tb σ H0 h m) (z : n + m ≤ 900)
    (hs : ∀ r1 r2 ps qs H Q, Rng C H r1 ps → Rng C H r2 qs → ps.length + qs.length ≤ 900 → NewR C H Q (ps.length + qs.length + d) (fun k => f (hasL ps k) (hasL qs k)) → sp [.ref r1, .ref r2] H Q E0) :
    Ev C (tOp (rBin C sp) ta tb) σ H0 (fun k => f (g k) (h k)) (n + m + d) := fun H sm Q q => by
  refine i_op (a H sm _ fun r1 H1 ps s1 hr1 hm1 hz1 => b H1 (fun b o z => s1 _ _ (sm _ _ z)) _ fun r2 H2 qs s2 hr2 hm2 hz2 => ?_)
  obtain ⟨dx, t, a1, _⟩ := id hr1
  obtain ⟨dy, u, b1, _⟩ := id hr2
  refine ⟨r1, r2, _, _, _, _, rfl, rfl, s2 _ _ a1, b1, hs r1 r2 ps qs H2 Q (hr1.up s2) hr2 (by omega) fun u H3 us s3 hu hm hz => ?_⟩
  exact q u H3 us (fun b o z => s3 _ _ (s2 _ _ (s1 _ _ z))) hu (fun k => by rw [hm k]; simp only [hm1 k, hm2 k]) (by omega)
theorem ev_or (a : Ev C ta σ H0 g n) (b : Ev C tb σ H0 h m) (z : n + m ≤ 900) : Ev C (tOp (rBin C (mOr C)) ta tb) σ H0 (fun k => g k || h k) (n + m + 0) :=
  ev_bin (f := fun x y => x || y) a b z fun r1 r2 ps qs H Q h1 h2 hz q => ⟨r1, r2, ps, qs, rfl, h1, h2, by omega, q⟩
theorem ev_and (a : Ev C ta σ H0 g n) (b : Ev C tb σ H0 h m) (z : n + m ≤ 900) : Ev C (tOp (rBin C (mAnd C)) ta tb) σ H0 (fun k => g k && h k) (n + m + 3) :=
  ev_bin (f := fun x y => x && y) a b z fun r1 r2 ps qs H Q h1 h2 hz q => ⟨r1, r2, ps, qs, rfl, h1, h2, hz, q⟩
theorem ev_sub (a : Ev C ta σ H0 g n) (b : Ev C tb σ H0 h m) (z : n + m ≤ 900) : Ev C (tOp (rBin C (mSub C)) ta tb) σ H0 (fun k => g k && !h k) (n + m + 2) :=
  ev_bin (f := fun x y => x && !y) a b z fun r1 r2 ps qs H Q h1 h2 hz q => ⟨r1, r2, ps, qs, rfl, h1, h2, hz, q⟩
theorem same_tr {H0 H1 H2 : Hp} (a : Same H0 H1) (b : Same H1 H2) : Same H0 H2 := fun x o z => b _ _ (a _ _ z)
/-- both are the same set: != says False -/
theorem ev_ne {H : Hp} (T : ClsT K mg C fI fE) (a : Ev C ta σ H0 g n) (b : Ev C tb σ H0 h m) (e : ∀ k, g k = h k) (sm : Same H0 H) {R : Bool → Hp → Prop} (q : ∀ H', Same H0 H' → R false H') : tTest (tOp (rNeO K C (mEq C)) ta tb) σ H R := by
  refine i_test (i_op (a H sm _ fun r1 H1 ps s1 hr1 hm1 hz1 => b H1 (same_tr sm s1) _ fun r2 H2 qs s2 hr2 hm2 hz2 => ?_))
  have e2 : ps = qs := canon_unique hr1.canon hr2.canon fun k => by rw [hm1 k, hm2 k, e k]
  subst e2
  have hr1' := hr1.up s2
  obtain ⟨dx, t, a1, _⟩ := id hr1'
  refine ⟨r1, dx, _, _, rfl, a1, hr2.ty T, self_nf, r1, _, ps, _, rfl, hr1', .inl ⟨r2, ps, rfl, hr2, rfl⟩, _, rfl, _, rfl, ?_⟩
  rw [decide_eq_true rfl]
  exact q H2 (same_tr sm (same_tr s1 s2))
/-- a.is_within(b) -/
theorem ev_wi {H : Hp} (a : Ev C ta σ H0 g n) (b : Ev C tb σ H0 h m) (z : n + m ≤ 900) (e : ∀ k, g k = true → h k = true) (sm : Same H0 H) {R : Bool → Hp → Prop} (q : ∀ H', Same H0 H' → R true H') : tTest (tMethR C "is_within" (mWi C) E0 ta (tCons tb tNil)) σ H R := by
  refine i_test (a H sm _ fun r1 H1 ps s1 hr1 hm1 hz1 => ?_)
  obtain ⟨dx, t, a1, _⟩ := id hr1
  refine ⟨r1, dx, _, rfl, a1, lk_none, i_cons (b H1 (same_tr sm s1) _ fun r2 H2 qs s2 hr2 hm2 hz2 => ?_)⟩
  refine ⟨r1, r2, ps, qs, rfl, hr1.up s2, hr2, by omega, fun k H3 s3 hk => ?_⟩
  have ek : k = true := hk.mpr fun n hn => by rw [hm2 n]; exact e n (by rw [← hm1 n]; exact hn)
  subst ek
  exact ⟨true, rfl, q H3 (same_tr sm (same_tr s1 (same_tr s2 s3)))⟩
abbrev mEmpty (C : Addr) : Sp := fun vs H Q E => sp_empty C (vs ++ []) H Q E
abbrev mFull (C : Addr) : Sp := fun vs H Q E => sp_full C (vs ++ []) H Q E
theorem ev_empty {σ : L2.St} {H0 : Hp} : Ev C (ClX.tCMeth C (mEmpty C) E0 (tC (.ref C)) tNil) σ H0 (fun _ => false) 0 := fun H sm Q q => ⟨rfl, rfl, fun r H' s hr => q r H' [] s hr (fun _ => rfl) (Nat.le_refl _)⟩
theorem ev_full {σ : L2.St} {H0 : Hp} : Ev C (ClX.tCMeth C (mFull C) E0 (tC (.ref C)) tNil) σ H0 (fun _ => true) 1 := fun H sm Q q => ⟨rfl, rfl, fun r H' s hr => q r H' [(none, none)] s hr (fun _ => by simp [hasL, has1]) (Nat.le_refl _)⟩
end
/-- a pair of a set and the stretches it was made of -/
def Pair (C : Addr) (H : Hp) (v : V) : Prop := ∃ c a l ps ss, v = .ref c ∧ H c = some (.tup [.ref a, .ref l]) ∧ Rng C H a ps ∧ StrL H l ss ∧ (∀ n, hasL ps n = hasL ss n) ∧ ps.length ≤ 20 ∧ ss.length ≤ 20
theorem Pair.up {H H' : Hp} {v : V} (e : Same H H') (h : Pair C H v) : Pair C H' v := by
  obtain ⟨c, a, l, ps, ss, h0, h1, h2, h3, h4⟩ := h
  exact ⟨c, a, l, ps, ss, h0, e _ _ h1, h2.up e, h3.up e, h4⟩
end
end Spk

set_option Elab.async false
set_option linter.all false
set_option maxRecDepth 100000
set_option maxHeartbeats 1000000
namespace Spk
open PySem L2
local macro_rules | `(tactic| walk_at "rd") => `(tactic| repeat (first
  | with_reducible refine i_seq ?_ | with_reducible refine i_asg ?_ | with_reducible refine i_ret ?_ | with_reducible refine i_ifS ?_ | with_reducible refine i_if ?_
  | with_reducible refine i_for ?_ | with_reducible refine i_iL ?_ | with_reducible refine i_iT ?_ | with_reducible refine i_ckw ?_ | with_reducible refine i_cm ?_ | with_reducible refine And.intro (rfl : V.ref _ = V.ref _) ?_ | with_reducible refine i_rng1 ?_ | with_reducible refine i_bm ?_ | with_reducible refine i_bm0 ?_
  | with_reducible refine i_drop ?_ | with_reducible refine i_next ?_
  | with_reducible refine i_var rfl ?_ | with_reducible refine i_c ?_ | with_reducible refine i_op ?_ | with_reducible refine i_un ?_ | with_reducible refine i_name ?_
  | with_reducible refine i_rI0 ?_ | with_reducible refine i_rU ?_ | with_reducible refine i_rEq rfl ?_ | with_reducible refine i_rNe rfl ?_
  | with_reducible refine i_test ?_ | with_reducible refine i_tB ?_ | with_reducible refine i_and ?_ | with_reducible refine i_or ?_ | with_reducible refine i_not ?_
  | with_reducible refine i_andV ?_ | with_reducible refine i_orV ?_ | with_reducible refine i_notV ?_
  | with_reducible refine i_cons ?_ | with_reducible refine i_nil ?_ | with_reducible refine i_cb ?_ | with_reducible refine i_call ?_ | with_reducible refine i_bl ?_
  | with_reducible refine i_tup ?_ | with_reducible refine i_lst ?_ | with_reducible refine i_par ?_ | with_reducible refine i_gcons ?_ | with_reducible refine i_gnil ?_
  | with_reducible refine And.intro (rfl : V.non = V.non) ?_ | with_reducible refine i_ixT (by assumption) rfl ?_ | with_reducible refine i_ixL (by assumption) rfl ?_ | with_reducible refine i_gtup (by assumption) rfl ?_
  | with_reducible refine i_gsub ?_
  | with_reducible refine Or.inl (Exists.intro _ (And.intro (rfl : [V.int _] = [V.int _]) ?_)) | with_reducible refine Exists.intro _ (And.intro (rfl : [V.int _] = [V.int _]) ?_)
  | with_reducible refine Or.inr (Exists.intro _ (And.intro (rfl : [V.bl _] = [V.bl _]) ?_))
  | with_reducible refine Exists.intro _ (Exists.intro _ (And.intro (rfl : [V.int _, V.int _] = [V.int _, V.int _]) ?_))
  | with_reducible refine Exists.intro _ (Exists.intro _ (And.intro (rfl : [V.ref _] = [V.ref _]) (And.intro (Or.inl (SqL.of (by assumption))) ?_)))
  | with_reducible refine i_rI (show (0 : Int) < _ by assumption) ?_ | with_reducible refine i_rI (show (0 : Int) < _ by decide) ?_
  | with_reducible refine i_rI (pow_ok (Nat.le_of_ble_eq_true rfl) (Nat.le_of_ble_eq_true rfl)) ?_
  | with_reducible refine i_rI (cmulL rfl) ?_))
section
variable {P : Program} {w : World} {K : PySem.W.Frag} {mg : Str → Option Value} {base : Heap} {C fI fE : Addr} {mc : Value} {pe pb po pf ge gb go gf fO fA fS fW fN fB : Addr}
abbrev s_law : Stmt := top 21
theorem sc_law : FnScope ["_law_script", "_law_pen_here", "_law_turn", "_law_one", "_law_other", "_law_third", "_law_a", "_law_b", "_law_c", "_law_kept", "_law_left", "_law_mine", "_law_right", "_law_yours"] ["_law_script"] (defScope s_law) := ⟨rfl, rfl, rfl, by decide +kernel, rfl, by decide +kernel, by decide +kernel⟩
structure LInv (a p L : Addr) (i : Nat) (σ : L2.St) (H : Hp) : Prop where
  ex : ∃ (x2 x3 x4 x5 x6 x7 x8 x9 x10 x11 x12 x13 : Option V), σ = [some (.ref a), some (.ref p), x2, x3, x4, x5, x6, x7, x8, x9, x10, x11, x12, x13] ∧ Pen H p L (600 * i)
structure LTwo (H0 : Hp) (a p : Addr) (x2 x3 x4 x5 x6 x7 x8 x9 : Option V) (i : Nat) (σ : L2.St) (H : Hp) : Prop where
  ex : ∃ (x10 x11 x12 x13 : Option V), σ = [some (.ref a), some (.ref p), x2, x3, x4, x5, x6, x7, x8, x9, x10, x11, x12, x13] ∧ Same H0 H
structure LThr (H0 : Hp) (a p : Addr) (x2 x3 x4 x5 x6 x7 x8 x9 x10 x11 : Option V) (i : Nat) (σ : L2.St) (H : Hp) : Prop where
  ex : ∃ (x12 x13 : Option V), σ = [some (.ref a), some (.ref p), x2, x3, x4, x5, x6, x7, x8, x9, x10, x11, x12, x13] ∧ Same H0 H
def sp_law (K : PySem.W.Frag) : Sp := fun vs H Q _ => ∃ a, ∃ ns : List Int, vs = [.ref a] ∧ SqL K H a (ns.map V.int) ∧ ns.length ≤ 63 ∧ ∀ H', Q (.bl true) H'
theorem eqv_kept (ps qs rs : List Stc) : PyData.eqv (.tuple [psD ps, psD qs, psD rs]) (.tuple [psD ps, psD qs, psD rs]) = true := by
  simp only [PyData.eqv, PyData.eqvAll, eqv_psD, Bool.and_true, decide_true]
theorem lay_psD (ps : List Stc) : (psD ps).canLay0 = true := by simpa only [psD, PyData.canLay0] using lay_ps ps
theorem dep_psD (ps : List Stc) : (psD ps).depth ≤ 3 := by
  have := dep_ps ps
  simp only [psD, PyData.depth]
  omega
theorem shaped_kept (ps qs rs : List Stc) : SeqAt.shaped (.tuple [psD ps, psD qs, psD rs]) = true := by
  have h1 := dep_psD ps
  have h2 := dep_psD qs
  have h3 := dep_psD rs
  have h4 : (PyData.tuple [psD ps, psD qs, psD rs]).depth ≤ 4 := by
    simp only [PyData.depth, PyData.depthAll]
    omega
  unfold SeqAt.shaped
  rw [Bool.and_eq_true, decide_eq_true_eq]
  exact ⟨by simp only [PyData.canLay0, PyData.canLayAll0, lay_psD, Bool.and_true], by omega⟩
theorem ok_law {f f1 f3 f4 f5 f6 f7 : Addr} {fd fd1 fd3 fd4 fd5 fd6 fd7 : FuncData} (F : Fun K "law" "law" s_law f fd) (T : ClsT K mg C fI fE) (CK : ClsK K C fN fB) (CM : ClsM K C mc pe pb po pf ge gb go gf fO) (CN : ClsN K C fA fS fW) (R : ClsR P w K mg base C ge gb go gf fO fE)
    (R_bool : FnR P w K mg base CX0 1 fB (fun vs H Q E => sp_bool C (vs ++ []) H Q E)) (R_and : FnR P w K mg base CX0 5 fA (mAnd C)) (R_sub : FnR P w K mg base CX0 5 fS (mSub C)) (R_is_within : FnR P w K mg base CX0 6 fW (mWi C))
    (F_pen : Fun K "_law_pen" "_law_pen" s_pen f1 fd1) (B_pen : Binds K fd1 ["_law_script"] []) (g_pen : mg "_law_pen" = some (.ref f1)) (G_pen : FnOk P w K mg base CX0 1 f1 fd1 ["_law_script"] (sp_pen K))
    (F_stretches : Fun K "_law_stretches" "_law_stretches" s_stretches f3 fd3) (B_stretches : Binds K fd3 ["_law_pen_here", "_law_most"] []) (g_stretches : mg "_law_stretches" = some (.ref f3)) (G_stretches : FnOk P w K mg base CX0 3 f3 fd3 ["_law_pen_here", "_law_most"] sp_stretches)
    (F_made : Fun K "_law_made" "_law_made" s_made f4 fd4) (B_made : Binds K fd4 ["_law_pen_here", "_law_stretches_here"] []) (g_made : mg "_law_made" = some (.ref f4)) (G_made : FnOk P w K mg base CX0 6 f4 fd4 ["_law_pen_here", "_law_stretches_here"] (sp_made C))
    (F_near : Fun K "_law_near" "_law_near" s_near f5 fd5) (B_near : Binds K fd5 ["_law_pen_here", "_law_stretches_here"] []) (g_near : mg "_law_near" = some (.ref f5)) (G_near : FnOk P w K mg base CX0 4 f5 fd5 ["_law_pen_here", "_law_stretches_here"] sp_near)
    (F_outcome_right : Fun K "_law_outcome_right" "_law_outcome_right" s_outcome_right f6 fd6) (B_outcome_right : Binds K fd6 ["_law_found", "_law_one", "_law_other", "_law_word"] []) (g_outcome_right : mg "_law_outcome_right" = some (.ref f6)) (G_outcome_right : FnOk P w K mg base CX0 4 f6 fd6 ["_law_found", "_law_one", "_law_other", "_law_word"] (sp_outcome C))
    (F_is_less : Fun K "_law_is_less" "_law_is_less" s_is_less f7 fd7) (B_is_less : Binds K fd7 ["_law_one", "_law_other"] []) (g_is_less : mg "_law_is_less" = some (.ref f7)) (G_is_less : FnOk P w K mg base CX0 2 f7 fd7 ["_law_one", "_law_other"] sp_is_less)
    (g_C : mg "Ranges" = some (.ref C)) (z_range : mg "range" = none) (z_bool : mg "bool" = none) : FnOk P w K mg base CX0 8 f fd ["_law_script"] (sp_law K) := by
  have R_empty := R.empty
  have R_or := R.or
  have R_full := R.full
  have R_eq := R.eq
  refine F.ok sc_law (fun vs H Q E h => ?_) (fun cdv A outer s H vs Q E hr h => ?_)
  · obtain ⟨a, ns, rfl, _⟩ := h
    rfl
  · obtain ⟨a, ns, rfl, ha, hn, q⟩ := h
    refine ⟨_, (pss_cons (ps_set (i := 1) sc_law.nd rfl (Or.inl rfl) (pe_call G_pen (hr.mono (by decide)) rfl g_pen F_pen.kp B_pen .nil pass0 (pa_cons (pv 0) pa_nil)))
 (pss_cons (ps_for PassesOwn.never rfl (pi_range1 (by rfl) z_range (pa_cons pe_int pa_nil)) (pg_name (i := 2) sc_law.nd rfl (Or.inl rfl))
 (pss_cons (ps_set (i := 3) sc_law.nd rfl (Or.inl rfl) (pe_call G_stretches (hr.mono (by decide)) rfl g_stretches F_stretches.kp B_stretches .nil pass0 (pa_cons (pv 1) (pa_cons pe_int pa_nil))))
 (pss_cons (ps_set (i := 4) sc_law.nd rfl (Or.inl rfl) (pe_call G_near (hr.mono (by decide)) rfl g_near F_near.kp B_near .nil pass0 (pa_cons (pv 1) (pa_cons (pv 3) pa_nil))))
 (pss_cons (ps_set (i := 5) sc_law.nd rfl (Or.inl rfl) (pe_call G_near (hr.mono (by decide)) rfl g_near F_near.kp B_near .nil pass0 (pa_cons (pv 1) (pa_cons (pv 4) pa_nil))))
 (pss_cons (ps_par3 (i := 6) (j := 7) (l := 8) (by rfl) sc_law.nd rfl rfl rfl (by decide) (by decide) (by decide) rfl rfl rfl (pa_cons (pe_call G_made (hr.mono (by decide)) rfl g_made F_made.kp B_made .nil pass0 (pa_cons (pv 1) (pa_cons (pv 3) pa_nil))) (pa_cons (pe_call G_made (hr.mono (by decide)) rfl g_made F_made.kp B_made .nil pass0 (pa_cons (pv 1) (pa_cons (pv 4) pa_nil))) (pa_cons (pe_call G_made (hr.mono (by decide)) rfl g_made F_made.kp B_made .nil pass0 (pa_cons (pv 1) (pa_cons (pv 5) pa_nil))) pa_nil))) (by rfl))
 (pss_cons (ps_set (i := 9) sc_law.nd rfl (Or.inl rfl) (pe_tup (pa_cons (pe_fld (pv 6) rfl) (pa_cons (pe_fld (pv 7) rfl) (pa_cons (pe_fld (pv 8) rfl) pa_nil)))))
 (pss_cons (ps_for PassesOwn.never rfl (pi_list (pe_lst (pa_cons (pe_tup (pa_cons (pv 6) (pa_cons (pv 3) pa_nil))) (pa_cons (pe_tup (pa_cons (pv 7) (pa_cons (pv 4) pa_nil))) pa_nil)))) (pg_tup (by rfl) (pgs_cons (pg_name (i := 10) sc_law.nd rfl (Or.inl rfl)) (pgs_cons (pg_name (i := 11) sc_law.nd rfl (Or.inl rfl)) pgs_nil)))
 (pss_one (ps_for PassesOwn.never rfl (pi_list (pe_lst (pa_cons (pe_tup (pa_cons (pv 7) (pa_cons (pv 4) pa_nil))) (pa_cons (pe_tup (pa_cons (pv 8) (pa_cons (pv 5) pa_nil))) (pa_cons (pe_tup (pa_cons (pv 6) (pa_cons (pv 3) pa_nil))) pa_nil))))) (pg_tup (by rfl) (pgs_cons (pg_name (i := 12) sc_law.nd rfl (Or.inl rfl)) (pgs_cons (pg_name (i := 13) sc_law.nd rfl (Or.inl rfl)) pgs_nil)))
 (pss_cons (ps_if (pt_not (pt_val (pe_call G_outcome_right (hr.mono (by decide)) rfl g_outcome_right F_outcome_right.kp B_outcome_right .nil pass0 (pa_cons (pe_op (op_own (op := .BitOr) R_or (hr.mono (by decide)) CM.self CM.orF CM.orI) (pv 10) (pv 12)) (pa_cons (pv 11) (pa_cons (pv 13) (pa_cons pe_str pa_nil)))))))
 (pss_one (ps_ret pe_bl))
 pss_nil)
 (pss_cons (ps_if (pt_not (pt_val (pe_call G_outcome_right (hr.mono (by decide)) rfl g_outcome_right F_outcome_right.kp B_outcome_right .nil pass0 (pa_cons (pe_op (op_own (op := .BitAnd) R_and (hr.mono (by decide)) CM.self CN.andF CN.andI) (pv 10) (pv 12)) (pa_cons (pv 11) (pa_cons (pv 13) (pa_cons pe_str pa_nil)))))))
 (pss_one (ps_ret pe_bl))
 pss_nil)
 (pss_cons (ps_if (pt_not (pt_val (pe_call G_outcome_right (hr.mono (by decide)) rfl g_outcome_right F_outcome_right.kp B_outcome_right .nil pass0 (pa_cons (pe_op (op_own (op := .Sub) R_sub (hr.mono (by decide)) CM.self CN.subF CN.subI) (pv 10) (pv 12)) (pa_cons (pv 11) (pa_cons (pv 13) (pa_cons pe_str pa_nil)))))))
 (pss_one (ps_ret pe_bl))
 pss_nil)
 (pss_one (ps_if (pt_cmpR op_ne (pe_methR (pv 10) T.cl CN.is_within R_is_within (hr.mono (by decide)) pass0 (pa_cons (pv 12) pa_nil)) (pe_call G_is_less (hr.mono (by decide)) rfl g_is_less F_is_less.kp B_is_less .nil pass0 (pa_cons (pv 11) (pa_cons (pv 13) pa_nil))) (nomark _))
 (pss_one (ps_ret pe_bl))
 pss_nil))))))))
 (pss_cons (ps_if (PW.pt (pw_or (pt_cmpR (op_neO R_eq (hr.mono (by decide)) T.eq) (pe_op (op_own (op := .BitOr) R_or (hr.mono (by decide)) CM.self CM.orF CM.orI) (pe_op (op_own (op := .Sub) R_sub (hr.mono (by decide)) CM.self CN.subF CN.subI) (pv 6) (pv 7)) (pe_op (op_own (op := .BitAnd) R_and (hr.mono (by decide)) CM.self CN.andF CN.andI) (pv 6) (pv 7))) (pv 6) (nomark _)) (pw_or (pt_cmpR (op_neO R_eq (hr.mono (by decide)) T.eq) (pe_op (op_own (op := .Sub) R_sub (hr.mono (by decide)) CM.self CN.subF CN.subI) (pe_op (op_own (op := .BitOr) R_or (hr.mono (by decide)) CM.self CM.orF CM.orI) (pv 6) (pv 7)) (pv 7)) (pe_op (op_own (op := .Sub) R_sub (hr.mono (by decide)) CM.self CN.subF CN.subI) (pv 6) (pv 7)) (nomark _)) (pw_or1 (pt_cmpR (op_neO R_eq (hr.mono (by decide)) T.eq) (pe_op (op_own (op := .Sub) R_sub (hr.mono (by decide)) CM.self CN.subF CN.subI) (pe_op (op_own (op := .Sub) R_sub (hr.mono (by decide)) CM.self CN.subF CN.subI) (pv 6) (pv 7)) (pv 8)) (pe_op (op_own (op := .Sub) R_sub (hr.mono (by decide)) CM.self CN.subF CN.subI) (pv 6) (pe_op (op_own (op := .BitOr) R_or (hr.mono (by decide)) CM.self CM.orF CM.orI) (pv 7) (pv 8))) (nomark _))))))
 (pss_one (ps_ret pe_bl))
 pss_nil)
 (pss_cons (ps_if (PW.pt (pw_or (pt_cmpR (op_neO R_eq (hr.mono (by decide)) T.eq) (pe_op (op_own (op := .BitAnd) R_and (hr.mono (by decide)) CM.self CN.andF CN.andI) (pe_op (op_own (op := .BitOr) R_or (hr.mono (by decide)) CM.self CM.orF CM.orI) (pv 6) (pv 7)) (pv 8)) (pe_op (op_own (op := .BitOr) R_or (hr.mono (by decide)) CM.self CM.orF CM.orI) (pe_op (op_own (op := .BitAnd) R_and (hr.mono (by decide)) CM.self CN.andF CN.andI) (pv 6) (pv 8)) (pe_op (op_own (op := .BitAnd) R_and (hr.mono (by decide)) CM.self CN.andF CN.andI) (pv 7) (pv 8))) (nomark _)) (pw_or1 (pt_cmpR (op_neO R_eq (hr.mono (by decide)) T.eq) (pe_op (op_own (op := .Sub) R_sub (hr.mono (by decide)) CM.self CN.subF CN.subI) (pv 6) (pe_op (op_own (op := .BitAnd) R_and (hr.mono (by decide)) CM.self CN.andF CN.andI) (pv 7) (pv 8))) (pe_op (op_own (op := .BitOr) R_or (hr.mono (by decide)) CM.self CM.orF CM.orI) (pe_op (op_own (op := .Sub) R_sub (hr.mono (by decide)) CM.self CN.subF CN.subI) (pv 6) (pv 7)) (pe_op (op_own (op := .Sub) R_sub (hr.mono (by decide)) CM.self CN.subF CN.subI) (pv 6) (pv 8))) (nomark _)))))
 (pss_one (ps_ret pe_bl))
 pss_nil)
 (pss_cons (ps_if (PW.pt (pw_or (pt_not (pt_val (pe_methR (pe_op (op_own (op := .BitAnd) R_and (hr.mono (by decide)) CM.self CN.andF CN.andI) (pv 6) (pv 7)) T.cl CN.is_within R_is_within (hr.mono (by decide)) pass0 (pa_cons (pv 6) pa_nil)))) (pw_or (pt_not (pt_val (pe_methR (pv 6) T.cl CN.is_within R_is_within (hr.mono (by decide)) pass0 (pa_cons (pe_op (op_own (op := .BitOr) R_or (hr.mono (by decide)) CM.self CM.orF CM.orI) (pv 6) (pv 8)) pa_nil)))) (pw_or1 (pt_cmpR (op_neO R_eq (hr.mono (by decide)) T.eq) (pe_op (op_own (op := .BitAnd) R_and (hr.mono (by decide)) CM.self CN.andF CN.andI) (pe_op (op_own (op := .Sub) R_sub (hr.mono (by decide)) CM.self CN.subF CN.subI) (pv 6) (pv 8)) (pv 8)) (pe_cmeth0 (pe_glob rfl g_C (relR _)) CM.rd CM.empty R_empty (hr.mono (by decide)) pass0) (nomark _))))))
 (pss_one (ps_ret pe_bl))
 pss_nil)
 (pss_cons (ps_if (PW.pt (pw_or (pt_cmpR (op_neO R_eq (hr.mono (by decide)) T.eq) (pe_op (op_own (op := .Sub) R_sub (hr.mono (by decide)) CM.self CN.subF CN.subI) (pe_cmeth0 (pe_glob rfl g_C (relR _)) CM.rd CM.full R_full (hr.mono (by decide)) pass0) (pe_op (op_own (op := .Sub) R_sub (hr.mono (by decide)) CM.self CN.subF CN.subI) (pe_cmeth0 (pe_glob rfl g_C (relR _)) CM.rd CM.full R_full (hr.mono (by decide)) pass0) (pv 6))) (pv 6) (nomark _)) (pw_or1 (pt_cmpR op_ne (pe_callTy (call_boolO R_bool (hr.mono (by decide)) CK.boF CK.boI) (by rfl) z_bool (by decide +kernel) (pa_cons (pe_op (op_own (op := .BitAnd) R_and (hr.mono (by decide)) CM.self CN.andF CN.andI) (pv 6) (pv 7)) pa_nil)) (pe_cmpR (op_neD hr.units) (pe_fld (pe_op (op_own (op := .BitAnd) R_and (hr.mono (by decide)) CM.self CN.andF CN.andI) (pv 6) (pv 7)) rfl) (pe_tup pa_nil) (nomark _)) (nomark _)))))
 (pss_one (ps_ret pe_bl))
 pss_nil)
 (pss_one (ps_if (pt_cmpR (op_neD hr.units) (pe_tup (pa_cons (pe_fld (pv 6) rfl) (pa_cons (pe_fld (pv 7) rfl) (pa_cons (pe_fld (pv 8) rfl) pa_nil)))) (pv 9) (nomark _))
 (pss_one (ps_ret pe_bl))
 pss_nil)))))))))))))
 (pss_one (ps_ret pe_bl)))), ?_⟩
    walk_at "rd"
    refine ⟨a, ns, rfl, ha, hn, fun p L H1 s1 hp => ?_⟩
    walk_at "rd"
    refine ⟨by decide, by decide, for_range (lo := 0) (n := 2) (LInv a p L) ⟨_, _, _, _, _, _, _, _, _, _, _, _, rfl, hp⟩ ?_ ?_⟩
    · rintro i σ H3 hi ⟨x2, x3, x4, x5, x6, x7, x8, x9, x10, x11, x12, x13, rfl, p3⟩
      walk_at "rd"
      refine ⟨p, L, _, 6, rfl, p3, by omega, by decide, by decide, fun l1 H4 s1 hl10 k4 p4 sl1 ne1 hz1 => ?_⟩
      walk_at "rd"
      refine ⟨p, L, _, l1, s1, rfl, p4, by omega, sl1, by omega, ne1, fun l2 H5 s2 k5 p5 sl2 ne2 hz2 => ?_⟩
      walk_at "rd"
      refine ⟨p, L, _, l2, s2, rfl, p5, by omega, sl2, by omega, ne2, fun l3 H6 s3 k6 p6 sl3 ne3 hz3 => ?_⟩
      walk_at "rd"
      unfold tPar3
      walk_at "rd"
      have sl16 := (sl1.keep k5).keep k6
      have sl26 := sl2.keep k6
      refine ⟨p, L, _, l1, s1, rfl, p6, by omega, sl16, by omega, ne1, fun ra H7 pa k7 p7 hra hma hza => ?_⟩
      walk_at "rd"
      refine ⟨p, L, _, l2, s2, rfl, p7, by omega, sl26.keep k7, by omega, ne2, fun rb H8 pb k8 p8 hrb hmb hzb => ?_⟩
      walk_at "rd"
      refine ⟨p, L, _, l3, s3, rfl, p8, by omega, (sl3.keep k7).keep k8, by omega, ne3, fun rc H9 pc k9 p9 hrc hmc hzc => ?_⟩
      have sla := ((sl16.keep k7).keep k8).keep k9
      have slb := ((sl26.keep k7).keep k8).keep k9
      have slc := ((sl3.keep k7).keep k8).keep k9
      have hra9 := (hra.keep k8).keep k9
      have hrb9 := hrb.keep k9
      have hp9 : Pen H9 p L (600 * (i + 1)) := p9.mono (by omega)
      clear sl1 sl2 sl3 sl16 sl26 hra hrb p3 p4 p5 p6 p7 p8 p9 k4 k5 k6 k7 k8 k9
      walk_at "rd"
      refine ⟨_, _, _, rfl, ?_⟩
      walk_at "rd"
      obtain ⟨dxa, ta, ia, pta, ca⟩ := id hra9
      obtain ⟨dxb, tb, ib, ptb, cb⟩ := id hrb9
      obtain ⟨dxc, tc, ic, ptc, cc⟩ := id hrc
      refine ⟨_, rfl, ra, C, dxa, _, _, rfl, ia, T.cl, T.nP, lk_parts, ?_⟩
      walk_at "rd"
      refine ⟨_, rfl, rb, C, dxb, _, _, rfl, ib, T.cl, T.nP, lk_parts, ?_⟩
      walk_at "rd"
      refine ⟨_, rfl, rc, C, dxc, _, _, rfl, ic, T.cl, T.nP, lk_parts, ?_⟩
      walk_at "rd"
      refine ⟨size_of (Nat.le_of_ble_eq_true rfl), fun kp hkp => ?_⟩
      obtain ⟨H11, e11, s11, h11⟩ := new_heap (o := .tup [.ref ta, .ref tb, .ref tc]) hkp
      rw [e11]
      have s911 := s11
      have Sa := sla.up s911
      have Sb := slb.up s911
      have Sc := slc.up s911
      have Ra := hra9.up s911
      have Rb := hrb9.up s911
      have Rc := hrc.up s911
      have hp11 := hp9.up s911
      have ia11 := s11 _ _ ia
      have ib11 := s11 _ _ ib
      have ic11 := s11 _ _ ic
      have pta11 := pta.up s11
      have ptb11 := ptb.up s11
      have ptc11 := ptc.up s11
      clear sla slb slc hra9 hrb9 hrc hp9 ia ib ic pta ptb ptc s911 s11 e11
      walk_at "rd"
      refine ⟨size_of (Nat.le_of_ble_eq_true rfl), fun y1 hy1 => ?_⟩
      obtain ⟨H12, e12, s12, h12⟩ := new_heap (o := .tup [.ref ra, .ref l1]) hy1
      rw [e12]
      walk_at "rd"
      refine ⟨size_of (Nat.le_of_ble_eq_true rfl), fun y2 hy2 => ?_⟩
      obtain ⟨H13, e13, s13, h13⟩ := new_heap (o := .tup [.ref rb, .ref l2]) hy2
      rw [e13]
      walk_at "rd"
      refine ⟨size_of (Nat.le_of_ble_eq_true rfl), fun y3 hy3 => ?_⟩
      obtain ⟨H14, e14, s14, h14⟩ := new_heap (o := .lst [.ref y1, .ref y2]) hy3
      rw [e14]
      have s11_14 := same_tr s12 (same_tr s13 s14)
      have all1 : ∀ v, v ∈ [V.ref y1, .ref y2] → Pair C H14 v := by
        intro v hv
        simp only [List.mem_cons, List.not_mem_nil, or_false] at hv
        rcases hv with rfl | rfl
        · exact ⟨y1, ra, l1, pa, s1, rfl, s14 _ _ (s13 _ _ h12), Ra.up s11_14, Sa.up s11_14, hma, by omega, by omega⟩
        · exact ⟨y2, rb, l2, pb, s2, rfl, s14 _ _ h13, Rb.up s11_14, Sb.up s11_14, hmb, by omega, by omega⟩
      generalize [V.ref y1, .ref y2] = L1 at *
      walk_at "rd"
      refine ⟨y3, rfl, ⟨_, SqL.of h14⟩, for_list (K := K) (a := y3) (xs := L1) (LTwo H14 a p _ _ _ _ _ _ _ _) ⟨_, _, _, _, rfl, Same.refl _⟩ ?_ ?_ ?_⟩
      · rintro j σ H15 _ ⟨_, _, _, _, _, e⟩
        exact SqL.of (e _ _ h14)
      · rintro j x σ H15 hx ⟨x10', x11', x12', x13', rfl, s15⟩
        obtain ⟨c1, r1, m1, ps, ss, rfl, hc1, hr1, hm1, e1, z1, w1⟩ := (all1 x (List.mem_of_getElem? hx)).up s15
        walk_at "rd"
        have s11_15 := same_tr s11_14 s15
        refine ⟨size_of (Nat.le_of_ble_eq_true rfl), fun y4 hy4 => ?_⟩
        obtain ⟨H16, e16, s16, h16⟩ := new_heap (o := .tup [.ref rb, .ref l2]) hy4
        rw [e16]
        walk_at "rd"
        refine ⟨size_of (Nat.le_of_ble_eq_true rfl), fun y5 hy5 => ?_⟩
        obtain ⟨H17, e17, s17, h17⟩ := new_heap (o := .tup [.ref rc, .ref l3]) hy5
        rw [e17]
        walk_at "rd"
        refine ⟨size_of (Nat.le_of_ble_eq_true rfl), fun y6 hy6 => ?_⟩
        obtain ⟨H18, e18, s18, h18⟩ := new_heap (o := .tup [.ref ra, .ref l1]) hy6
        rw [e18]
        walk_at "rd"
        refine ⟨size_of (Nat.le_of_ble_eq_true rfl), fun y7 hy7 => ?_⟩
        obtain ⟨H19, e19, s19, h19⟩ := new_heap (o := .lst [.ref y4, .ref y5, .ref y6]) hy7
        rw [e19]
        have s15_19 := same_tr s16 (same_tr s17 (same_tr s18 s19))
        have s11_19 := same_tr s11_15 s15_19
        have all2 : ∀ v, v ∈ [V.ref y4, .ref y5, .ref y6] → Pair C H19 v := by
          intro v hv
          simp only [List.mem_cons, List.not_mem_nil, or_false] at hv
          rcases hv with rfl | rfl | rfl
          · exact ⟨y4, rb, l2, pb, s2, rfl, s19 _ _ (s18 _ _ (s17 _ _ h16)), Rb.up s11_19, Sb.up s11_19, hmb, by omega, by omega⟩
          · exact ⟨y5, rc, l3, pc, s3, rfl, s19 _ _ (s18 _ _ h17), Rc.up s11_19, Sc.up s11_19, hmc, by omega, by omega⟩
          · exact ⟨y6, ra, l1, pa, s1, rfl, s19 _ _ h18, Ra.up s11_19, Sa.up s11_19, hma, by omega, by omega⟩
        generalize [V.ref y4, .ref y5, .ref y6] = L2 at *
        have hr19 := hr1.up s15_19
        have hm19 := hm1.up s15_19
        walk_at "rd"
        refine ⟨y7, rfl, ⟨_, SqL.of h19⟩, for_list (K := K) (a := y7) (xs := L2) (LThr H19 a p _ _ _ _ _ _ _ _ _ _) ⟨_, _, rfl, Same.refl _⟩ ?_ ?_ ?_⟩
        · rintro j σ H20 _ ⟨_, _, _, e⟩
          exact SqL.of (e _ _ h19)
        · rintro j x σ H20 hx ⟨x12'', x13'', rfl, s20⟩
          obtain ⟨c2, r2, m2, qs, ts, rfl, hc2, hr2, hm2, e2, z2, w2⟩ := (all2 x (List.mem_of_getElem? hx)).up s20
          have hr1 := hr19.up s20
          have hm1 := hm19.up s20
          obtain ⟨dx, t1, i1, _⟩ := id hr1
          obtain ⟨dy, t2, i2, _⟩ := id hr2
          walk_at "rd"
          refine ⟨r1, r2, _, _, _, _, rfl, rfl, i1, i2, r1, r2, ps, qs, rfl, hr1, hr2, by omega, fun u H21 us s21 hu hmu hzu => ?_⟩
          walk_at "rd"
          refine ⟨u, m1, m2, "either", us, ss, ts, _, rfl, hu, hm1.up s21, hm2.up s21, by omega, by omega, by omega, .either, fun n => by rw [hmu n]; simp only [e1 n, e2 n], fun H22 s22 => ?_⟩
          refine ⟨true, rfl, iteF ?_⟩
          have t22 := same_tr s21 s22
          walk_at "rd"
          refine ⟨r1, r2, _, _, _, _, rfl, rfl, t22 _ _ i1, t22 _ _ i2, r1, r2, ps, qs, rfl, hr1.up t22, hr2.up t22, by omega, fun u H23 us s23 hu hmu hzu => ?_⟩
          walk_at "rd"
          have t23 := same_tr t22 s23
          refine ⟨u, m1, m2, "common", us, ss, ts, _, rfl, hu, hm1.up t23, hm2.up t23, by omega, by omega, by omega, .common, fun n => by rw [hmu n]; simp only [e1 n, e2 n], fun H24 s24 => ?_⟩
          refine ⟨true, rfl, iteF ?_⟩
          have t24 := same_tr t23 s24
          walk_at "rd"
          refine ⟨r1, r2, _, _, _, _, rfl, rfl, t24 _ _ i1, t24 _ _ i2, r1, r2, ps, qs, rfl, hr1.up t24, hr2.up t24, by omega, fun u H25 us s25 hu hmu hzu => ?_⟩
          walk_at "rd"
          have t25 := same_tr t24 s25
          refine ⟨u, m1, m2, "less", us, ss, ts, _, rfl, hu, hm1.up t25, hm2.up t25, by omega, by omega, by omega, .less, fun n => by rw [hmu n]; simp only [e1 n, e2 n], fun H26 s26 => ?_⟩
          refine ⟨true, rfl, iteF ?_⟩
          have t26 := same_tr t25 s26
          walk_at "rd"
          refine ⟨_, rfl, r1, dx, _, rfl, t26 _ _ i1, lk_none, ?_⟩
          walk_at "rd"
          refine ⟨r1, r2, ps, qs, rfl, hr1.up t26, hr2.up t26, by omega, fun k1 H27 s27 hk1 => ?_⟩
          have t27 := same_tr t26 s27
          walk_at "rd"
          refine ⟨m1, m2, ss, ts, rfl, hm1.up t27, hm2.up t27, by omega, by omega, fun k2 H28 s28 hk2 => ?_⟩
          have t28 := same_tr t27 s28
          have ek : k1 = k2 := by
            rw [Bool.eq_iff_iff, hk1, hk2]
            exact ⟨fun h n hn => by rw [← e2 n]; exact h n (by rw [e1 n]; exact hn), fun h n hn => by rw [e2 n]; exact h n (by rw [← e1 n]; exact hn)⟩
          subst ek
          walk_at "rd"
          refine ite_nd (fun h => absurd rfl h) (fun _ => ?_)
          walk_at "rd"
          exact ⟨_, _, rfl, same_tr s20 t28⟩
        · rintro σ H20 ⟨_, _, rfl, s20⟩
          exact ⟨_, _, _, _, rfl, same_tr s15 (same_tr s15_19 s20)⟩
      · rintro σ H15 ⟨x10', x11', x12', x13', rfl, s15⟩
        have t15 := same_tr s11_14 s15
        have RA := Ra.up t15
        have RB := Rb.up t15
        have RC := Rc.up t15
        have p15 := hp11.up t15
        have ia := t15 _ _ ia11
        have ib := t15 _ _ ib11
        have ic := t15 _ _ ic11
        have pta := pta11.up t15
        have ptb := ptb11.up t15
        have ptc := ptc11.up t15
        have hkp15 := t15 _ _ h11
        clear all1 Sa Sb Sc Ra Rb Rc hp11 ia11 ib11 ic11 pta11 ptb11 ptc11 s12 s13 s14 s15 s11_14 h12 h13 h14 hma hmb hmc ne1 ne2 ne3 t15
        have A : ∀ {σ : L2.St}, σ[6]? = some (some (.ref ra)) → Ev C (tVar 6) σ H15 (hasL pa) 20 := fun e => ev_var e RA (by omega)
        have B : ∀ {σ : L2.St}, σ[7]? = some (some (.ref rb)) → Ev C (tVar 7) σ H15 (hasL pb) 20 := fun e => ev_var e RB (by omega)
        have D : ∀ {σ : L2.St}, σ[8]? = some (some (.ref rc)) → Ev C (tVar 8) σ H15 (hasL pc) 20 := fun e => ev_var e RC (by omega)
        have s0 : Same H15 H15 := Same.refl _
        refine i_next ?_
        refine i_seq (i_ifS (i_or (ev_ne T (ev_or (ev_sub (A rfl) (B rfl) (by decide)) (ev_and (A rfl) (B rfl) (by decide)) (by decide)) (A rfl) (fun k => by cases hasL pa k <;> cases hasL pb k <;> rfl) s0 fun H16 s16 => iteF (i_or ?_))))
        refine ev_ne T (ev_sub (ev_or (A rfl) (B rfl) (by decide)) (B rfl) (by decide)) (ev_sub (A rfl) (B rfl) (by decide)) (fun k => by cases hasL pa k <;> cases hasL pb k <;> rfl) s16 fun H17 s17 => iteF ?_
        refine ev_ne T (ev_sub (ev_sub (A rfl) (B rfl) (by decide)) (D rfl) (by decide)) (ev_sub (A rfl) (ev_or (B rfl) (D rfl) (by decide)) (by decide)) (fun k => by cases hasL pa k <;> cases hasL pb k <;> cases hasL pc k <;> rfl) s17 fun H18 s18 => iteF ?_
        with_reducible refine i_next ?_
        with_reducible refine i_seq ?_
        with_reducible refine i_ifS ?_
        with_reducible refine i_or ?_
        refine ev_ne T (ev_and (ev_or (A rfl) (B rfl) (by decide)) (D rfl) (by decide)) (ev_or (ev_and (A rfl) (D rfl) (by decide)) (ev_and (B rfl) (D rfl) (by decide)) (by decide)) (fun k => by cases hasL pa k <;> cases hasL pb k <;> cases hasL pc k <;> rfl) s18 fun H19 s19 => iteF ?_
        refine ev_ne T (ev_sub (A rfl) (ev_and (B rfl) (D rfl) (by decide)) (by decide)) (ev_or (ev_sub (A rfl) (B rfl) (by decide)) (ev_sub (A rfl) (D rfl) (by decide)) (by decide)) (fun k => by cases hasL pa k <;> cases hasL pb k <;> cases hasL pc k <;> rfl) s19 fun H20 s20 => iteF ?_
        with_reducible refine i_next ?_
        with_reducible refine i_seq ?_
        with_reducible refine i_ifS ?_
        with_reducible refine i_or ?_
        with_reducible refine i_not ?_
        refine ev_wi (ev_and (A rfl) (B rfl) (by decide)) (A rfl) (by decide) (fun k => by cases hasL pa k <;> cases hasL pb k <;> decide) s20 fun H21 s21 => iteF (i_or (i_not ?_))
        refine ev_wi (A rfl) (ev_or (A rfl) (D rfl) (by decide)) (by decide) (fun k => by cases hasL pa k <;> cases hasL pc k <;> decide) s21 fun H22 s22 => iteF ?_
        refine ev_ne T (ev_and (ev_sub (A rfl) (D rfl) (by decide)) (D rfl) (by decide)) ev_empty (fun k => by cases hasL pa k <;> cases hasL pc k <;> rfl) s22 fun H23 s23 => iteF ?_
        with_reducible refine i_next ?_
        with_reducible refine i_seq ?_
        with_reducible refine i_ifS ?_
        with_reducible refine i_or ?_
        refine ev_ne T (ev_sub ev_full (ev_sub ev_full (A rfl) (by decide)) (by decide)) (A rfl) (fun k => by cases hasL pa k <;> rfl) s23 fun H24 s24 => iteF ?_
        refine i_test (i_op (i_cb (i_cons (ev_and (A rfl) (B rfl) (by decide) H24 s24 _ fun r1 H25 us s25 hr1 hm1 hz1 => ?_))))
        obtain ⟨dx1, t1, i1, _⟩ := id hr1
        refine ⟨_, rfl, r1, dx1, _, rfl, i1, r1, us, rfl, hr1, _, rfl, ?_⟩
        refine i_op (ev_and (A rfl) (B rfl) (by decide) H25 (same_tr s24 s25) _ fun r2 H26 vs s26 hr2 hm2 hz2 => ?_)
        obtain ⟨dx2, t2, i2, pt2, _⟩ := id hr2
        refine ⟨r2, C, dx2, _, _, rfl, i2, T.cl, T.nP, lk_parts, ?_⟩
        walk_at "rd"
        refine ⟨Nat.zero_le _, fun y1 hy1 => ?_⟩
        obtain ⟨H27, e27, s27, h27⟩ := new_heap (o := .tup []) hy1
        rw [e27]
        refine ⟨psD vs, psD [], dp_parts (pt2.up s27), dp_parts ⟨[], h27, .nil⟩, shaped_ps vs, shaped_ps [], ?_⟩
        rw [eqv_psD]
        have ev : us = vs := canon_unique hr1.canon hr2.canon fun k => by rw [hm1 k, hm2 k]
        subst ev
        walk_at "rd"
        refine ite_nd (fun h => absurd (by cases us <;> rfl) h) (fun _ => ?_)
        have t27 := same_tr (same_tr s24 s25) (same_tr s26 s27)
        walk_at "rd"
        refine ⟨_, rfl, ra, C, dxa, _, _, rfl, t27 _ _ ia, T.cl, T.nP, lk_parts, ?_⟩
        walk_at "rd"
        refine ⟨_, rfl, rb, C, dxb, _, _, rfl, t27 _ _ ib, T.cl, T.nP, lk_parts, ?_⟩
        walk_at "rd"
        refine ⟨_, rfl, rc, C, dxc, _, _, rfl, t27 _ _ ic, T.cl, T.nP, lk_parts, ?_⟩
        walk_at "rd"
        refine ⟨size_of (Nat.le_of_ble_eq_true rfl), fun y2 hy2 => ?_⟩
        obtain ⟨H28, e28, s28, h28⟩ := new_heap (o := .tup [.ref ta, .ref tb, .ref tc]) hy2
        rw [e28]
        have t28 := same_tr t27 s28
        walk_at "rd"
        refine ⟨.tuple [psD pa, psD pb, psD pc], .tuple [psD pa, psD pb, psD pc], .tup (SqT.of h28) (.cons (dp_parts (pta.up t28)) (.cons (dp_parts (ptb.up t28)) (.cons (dp_parts (ptc.up t28)) .nil))), .tup (SqT.of (t28 _ _ hkp15)) (.cons (dp_parts (pta.up t28)) (.cons (dp_parts (ptb.up t28)) (.cons (dp_parts (ptc.up t28)) .nil))), shaped_kept _ _ _, shaped_kept _ _ _, ?_⟩
        rw [eqv_kept]
        refine ⟨false, rfl, iteF ?_⟩
        walk_at "rd"
        exact ⟨_, _, _, _, _, _, _, _, _, _, _, _, rfl, p15.up t28⟩
    · rintro σ H3 ⟨x2, x3, x4, x5, x6, x7, x8, x9, x10, x11, x12, x13, rfl, p3⟩
      walk_at "rd"
      exact q H3
end
end Spk

set_option Elab.async false
set_option linter.all false
set_option maxRecDepth 100000
set_option maxHeartbeats 0
namespace Spk
open PySem L2
/-! ### what the top leaves -/
abbrev at1 (x : Str) : PySem.W.Frag → Addr := fun K => He.ga K x
abbrev atM (m : Str) : PySem.W.Frag → Addr := fun K => He.ma K (He.ga K "Ranges") m
abbrev atC (m : Str) : PySem.W.Frag → Addr := fun K => He5.wf K (He.ga K "Ranges") "classmethod" m
def dfn (a : PySem.W.Frag → Addr) (x q : Str) (st : Stmt) : He5.DefA := ⟨a, x, q, defArgs st, defBody st, defScope st, [], []⟩
def defs : List He5.DefA := [dfn (at1 "start_of") "start_of" "start_of" s_start_of,
  dfn (at1 "joined") "joined" "joined" s_joined,
  dfn (at1 "touches") "touches" "touches" s_touches,
  dfn (at1 "later_end") "later_end" "later_end" s_later_end,
  dfn (at1 "gaps") "gaps" "gaps" s_gaps,
  dfn (at1 "in_parts") "in_parts" "in_parts" s_in_parts,
  dfn (at1 "_law_pen") "_law_pen" "_law_pen" s_pen,
  dfn (at1 "_law_draw") "_law_draw" "_law_draw" s_draw,
  dfn (at1 "_law_end") "_law_end" "_law_end" s_end,
  dfn (at1 "_law_stretches") "_law_stretches" "_law_stretches" s_stretches,
  dfn (at1 "_law_has") "_law_has" "_law_has" s_has,
  dfn (at1 "_law_points") "_law_points" "_law_points" s_points,
  dfn (at1 "_law_is_joined") "_law_is_joined" "_law_is_joined" s_is_joined,
  dfn (at1 "_law_made") "_law_made" "_law_made" s_made,
  dfn (at1 "_law_near") "_law_near" "_law_near" s_near,
  dfn (at1 "_law_outcome_right") "_law_outcome_right" "_law_outcome_right" s_outcome_right,
  dfn (at1 "_law_is_less") "_law_is_less" "_law_is_less" s_is_less,
  dfn (at1 "law") "law" "law" s_law,
  dfn (atM "__init__") "__init__" "Ranges.__init__" s_Ranges__init,
  dfn (atM "__or__") "__or__" "Ranges.__or__" s_Ranges__or,
  dfn (atM "__and__") "__and__" "Ranges.__and__" s_Ranges__and,
  dfn (atM "__sub__") "__sub__" "Ranges.__sub__" s_Ranges__sub,
  dfn (atM "__eq__") "__eq__" "Ranges.__eq__" s_Ranges__eq,
  dfn (atM "__contains__") "__contains__" "Ranges.__contains__" s_Ranges__contains,
  dfn (atM "__bool__") "__bool__" "Ranges.__bool__" s_Ranges__bool,
  dfn (atM "is_within") "is_within" "Ranges.is_within" s_Ranges_is_within,
  dfn (atC "of") "of" "Ranges.of" s_Ranges_of,
  dfn (atC "between") "between" "Ranges.between" s_Ranges_between,
  dfn (atC "full") "full" "Ranges.full" s_Ranges_full,
  dfn (atC "empty") "empty" "Ranges.empty" s_Ranges_empty]
def names : List Str := ["start_of", "joined", "touches", "later_end", "gaps", "in_parts", "_law_pen", "_law_draw", "_law_end", "_law_stretches", "_law_has", "_law_points", "_law_is_joined", "_law_made", "_law_near", "_law_outcome_right", "_law_is_less", "law", "Ranges"]
def kits : List Str := ["abs", "bool", "enumerate", "int", "isinstance", "len", "list", "max", "min", "range", "sorted", "tuple"]
def plain : List He.Fa := names.map He.Fa.glo ++ (kits.map He.Fa.free ++ [.cls "Ranges", .noat "Ranges" "parts", .mkr "Ranges", .meth "Ranges" "__or__", .meth "Ranges" "__and__", .meth "Ranges" "__sub__", .meth "Ranges" "__eq__", .meth "Ranges" "__contains__", .meth "Ranges" "__bool__", .meth "Ranges" "is_within"])
def six : List String := ["NoneType", "bool", "int", "str", "list", "tuple"]
/-- what else is told of the class -/
def moreB (K : PySem.W.Frag) (C : Addr) : Bool :=
  PySem.W.selfFirst K C && (decide (PySem.W.findIn K (.ref C) "__ne__" = some (some (.builtin "object.__ne__"))) && (decide (PySem.W.subIn K (.ref C) (.type "object") = some true) && ((six.all fun t => decide (PySem.W.subIn K (.ref C) (.type t) = some false)) &&
  ((six.all fun t => decide (PySem.W.kitOne K (.type t) (.ref C) = some false)) && ((six.all fun t => PySem.W.notFirst K C (.type t)) && (decide (PySem.W.findIn K (.ref C) "__class__" = some (some (.builtin "object.__class__"))) &&
  (decide (PySem.W.specialIn K (.builtin "object.__class__") "__get__" = some (some (.builtin "getset_descriptor.__get__"))) && (decide (PySem.W.takesIn K (.builtin "object.__class__") = some true) && (decide (PySem.W.mroIn K C (.type "object") = some true) &&
  (decide (PySem.W.kitOne K (.ref C) (.ref C) = some true) && (PySem.W.readsIn K C (.type "type") && (decide (PySem.W.specialIn K (.ref C) "__getattribute__" = some (some (.builtin "type.__getattribute__"))) && ((["of", "between", "full", "empty"] : List Str).all fun m => He5.wrapB K C "classmethod" "classmethod.__get__" m && PySem.W.fnIn K (He5.wf K C "classmethod" m))))))))))))))
abbrev Seen : Type := Bool × He.AlD
def seenAt (n : Nat) (g : Addr → Option Obj) : Seen := (moreB (He.frG g (He5.asA g n)) (He.ga (He.frG g (He5.asA g n)) "Ranges"), He5.obsA plain defs (He.frG g (He5.asA g n)))
def Told (K : PySem.W.Frag) : Prop := moreB K (He.ga K "Ranges") = true ∧ He5.SaysA plain defs K
def hook (n : Nat) : PySem.W.Hook where
  α := Seen
  obs := fun s => seenAt n s.heap.get?
  val := fun _ => (true, He5.valA defs)
  says := fun _ h => ∃ K : PySem.W.Frag, K.In h ∧ Told K
  of := fun _ _ e => ⟨_, He.frG_in, congrArg Prod.fst e, congrArg Prod.snd e⟩
  keeps := fun _ _ _ ⟨K, hK, c⟩ k => ⟨K, PySem.W.Frag.In.keeps hK k, c⟩
abbrev Rw : PySem.W.OpenRow := PySem.W.OpenLaw.row PySem.Challenge.rw_speaklast_k02_sets_joined_and_cut
abbrev hk : PySem.W.Hook := hook 6
def obT (s : PySem.W.SharedT) : Seen := seenAt 6 (HandSHeadRun.getT s)
theorem obT_eq (s : PySem.W.SharedT) : obT s = hk.obs s.abs := by
  have e : HandSHeadRun.getT s = s.abs.heap.get? := funext (HandSHeadRun.getT_eq s)
  unfold obT
  rw [e]
  rfl
def loose : List Str := ["_wall", "Ranges", "start_of", "joined", "touches", "later_end", "gaps", "in_parts", "_law_pen", "_law_draw", "_law_end", "_law_stretches", "_law_has", "_law_points", "_law_is_joined", "_law_made", "_law_near", "_law_outcome_right", "_law_is_less"]
theorem runs (w : World) : HandSHeadRun.RunEq Rw (PySem.W.view Rw.prog [21]) hk obT 4000 loose w := by
  intro os
  kernel_rfl
end Spk

set_option Elab.async false
set_option linter.all false
set_option maxRecDepth 100000
set_option maxHeartbeats 1000000
namespace Spk
open PySem L2
/-! ### the facts by name -/
theorem Told.fa {K : PySem.W.Frag} (c : Told K) (i : Nat) {f : He.Fa} (h : plain[i]? = some f) : f.ok K = true := He5.SaysA.fact c.2 i h
theorem Told.fn {K : PySem.W.Frag} (c : Told K) (i : Nat) {a : PySem.W.Frag → Addr} {x q : Str} {st : Stmt} (h : defs[i]? = some (dfn a x q st)) : ∃ fd, Fun K x q st (a K) fd := by
  obtain ⟨fd, F⟩ := He5.SaysA.def_ c.2 i h
  exact ⟨fd, He5.fun_of F⟩
structure ClsX (K : PySem.W.Frag) (C : Addr) : Prop where
  self : PySem.W.selfFirst K C = true
  ne : PySem.W.findIn K (.ref C) "__ne__" = some (some (.builtin "object.__ne__"))
  ob : PySem.W.subIn K (.ref C) (.type "object") = some true
  sub : ∀ t, t ∈ six → PySem.W.subIn K (.ref C) (.type t) = some false
  kit : ∀ t, t ∈ six → PySem.W.kitOne K (.type t) (.ref C) = some false
  nf : ∀ t, t ∈ six → PySem.W.notFirst K C (.type t) = true
  cls : PySem.W.findIn K (.ref C) "__class__" = some (some (.builtin "object.__class__"))
  get : PySem.W.specialIn K (.builtin "object.__class__") "__get__" = some (some (.builtin "getset_descriptor.__get__"))
  tk : PySem.W.takesIn K (.builtin "object.__class__") = some true
  mro : PySem.W.mroIn K C (.type "object") = some true
  own : PySem.W.kitOne K (.ref C) (.ref C) = some true
  rd : ClX.CRead K C (.type "type")
  met : ∀ m, m ∈ (["of", "between", "full", "empty"] : List Str) → ClX.CMet K C (.type "type") m (He.ma K C m) (He5.wf K C "classmethod" m)
theorem more_ok {K : PySem.W.Frag} {C : Addr} (h : moreB K C = true) : ClsX K C := by
  obtain ⟨h1, h⟩ := He.ba h
  obtain ⟨h2, h⟩ := He.ba h
  obtain ⟨h3, h⟩ := He.ba h
  obtain ⟨h4, h⟩ := He.ba h
  obtain ⟨h5, h⟩ := He.ba h
  obtain ⟨h6, h⟩ := He.ba h
  obtain ⟨h7, h⟩ := He.ba h
  obtain ⟨h8, h⟩ := He.ba h
  obtain ⟨h9, h⟩ := He.ba h
  obtain ⟨h10, h⟩ := He.ba h
  obtain ⟨h11, h⟩ := He.ba h
  obtain ⟨h12, h⟩ := He.ba h
  obtain ⟨h13, h14⟩ := He.ba h
  refine ⟨h1, of_decide_eq_true h2, of_decide_eq_true h3, fun t z => of_decide_eq_true (List.all_eq_true.mp h4 t z), fun t z => of_decide_eq_true (List.all_eq_true.mp h5 t z), fun t z => List.all_eq_true.mp h6 t z, of_decide_eq_true h7, of_decide_eq_true h8, of_decide_eq_true h9, of_decide_eq_true h10, of_decide_eq_true h11, ⟨h12, of_decide_eq_true h13⟩, fun m z => ?_⟩
  obtain ⟨a, b⟩ := He.ba (List.all_eq_true.mp h14 m z)
  exact He5.cmet_of a b
theorem facts {P : Program} {w : World} {K : PySem.W.Frag} {h : Heap} {mg : Str → Option Value} {f : Addr} (X : K.In h) (G : h.Ns mainGlobals mg) (hfa : mg ("law" : Str) = some (.ref f)) (c : Told K) :
    ∃ fd : FuncData, (∀ (s : Shared) (v : Value), BindsTo s fd ⟨[v], []⟩ [("_law_script", v)]) ∧ ∀ base : Heap, K.In base → base.Ns mainGlobals mg → FnOk P w K mg base CX0 8 f fd ["_law_script"] (sp_law K) := by
  have g_start_of := He.glo_ok X G (c.fa 0 (f := .glo "start_of") rfl)
  have g_joined := He.glo_ok X G (c.fa 1 (f := .glo "joined") rfl)
  have g_touches := He.glo_ok X G (c.fa 2 (f := .glo "touches") rfl)
  have g_later_end := He.glo_ok X G (c.fa 3 (f := .glo "later_end") rfl)
  have g_gaps := He.glo_ok X G (c.fa 4 (f := .glo "gaps") rfl)
  have g_in_parts := He.glo_ok X G (c.fa 5 (f := .glo "in_parts") rfl)
  have g_pen := He.glo_ok X G (c.fa 6 (f := .glo "_law_pen") rfl)
  have g_draw := He.glo_ok X G (c.fa 7 (f := .glo "_law_draw") rfl)
  have g_end := He.glo_ok X G (c.fa 8 (f := .glo "_law_end") rfl)
  have g_stretches := He.glo_ok X G (c.fa 9 (f := .glo "_law_stretches") rfl)
  have g_has := He.glo_ok X G (c.fa 10 (f := .glo "_law_has") rfl)
  have g_points := He.glo_ok X G (c.fa 11 (f := .glo "_law_points") rfl)
  have g_is_joined := He.glo_ok X G (c.fa 12 (f := .glo "_law_is_joined") rfl)
  have g_made := He.glo_ok X G (c.fa 13 (f := .glo "_law_made") rfl)
  have g_near := He.glo_ok X G (c.fa 14 (f := .glo "_law_near") rfl)
  have g_outcome_right := He.glo_ok X G (c.fa 15 (f := .glo "_law_outcome_right") rfl)
  have g_is_less := He.glo_ok X G (c.fa 16 (f := .glo "_law_is_less") rfl)
  have g_law := He.glo_ok X G (c.fa 17 (f := .glo "law") rfl)
  have g_C := He.glo_ok X G (c.fa 18 (f := .glo "Ranges") rfl)
  have z_abs := He.free_ok X G (c.fa 19 (f := .free "abs") rfl)
  have z_bool := He.free_ok X G (c.fa 20 (f := .free "bool") rfl)
  have z_enumerate := He.free_ok X G (c.fa 21 (f := .free "enumerate") rfl)
  have z_int := He.free_ok X G (c.fa 22 (f := .free "int") rfl)
  have z_isinstance := He.free_ok X G (c.fa 23 (f := .free "isinstance") rfl)
  have z_len := He.free_ok X G (c.fa 24 (f := .free "len") rfl)
  have z_list := He.free_ok X G (c.fa 25 (f := .free "list") rfl)
  have z_max := He.free_ok X G (c.fa 26 (f := .free "max") rfl)
  have z_min := He.free_ok X G (c.fa 27 (f := .free "min") rfl)
  have z_range := He.free_ok X G (c.fa 28 (f := .free "range") rfl)
  have z_sorted := He.free_ok X G (c.fa 29 (f := .free "sorted") rfl)
  have z_tuple := He.free_ok X G (c.fa 30 (f := .free "tuple") rfl)
  have cCl := He.cls_ok (c.fa 31 (f := .cls "Ranges") rfl)
  have cNo_parts := He.noat_ok (c.fa 32 (f := .noat "Ranges" "parts") rfl)
  have cMk := He.mkr_ok (c.fa 33 (f := .mkr "Ranges") rfl)
  have m_or := He.meth_ok (c.fa 34 (f := .meth "Ranges" "__or__") rfl)
  have m_and := He.meth_ok (c.fa 35 (f := .meth "Ranges" "__and__") rfl)
  have m_sub := He.meth_ok (c.fa 36 (f := .meth "Ranges" "__sub__") rfl)
  have m_eq := He.meth_ok (c.fa 37 (f := .meth "Ranges" "__eq__") rfl)
  have m_contains := He.meth_ok (c.fa 38 (f := .meth "Ranges" "__contains__") rfl)
  have m_bool := He.meth_ok (c.fa 39 (f := .meth "Ranges" "__bool__") rfl)
  have m_is_within := He.meth_ok (c.fa 40 (f := .meth "Ranges" "is_within") rfl)
  have cX := more_ok c.1
  obtain ⟨fd_start_of, F_start_of⟩ := c.fn 0 (a := at1 "start_of") (x := "start_of") (q := "start_of") (st := s_start_of) rfl
  have B_start_of := F_start_of.binds (ps := ["stretch"]) fun _ _ _ _ _ _ us hl => match us, hl with | [_], _ => rfl
  obtain ⟨fd_joined, F_joined⟩ := c.fn 1 (a := at1 "joined") (x := "joined") (q := "joined") (st := s_joined) rfl
  have B_joined := F_joined.binds (ps := ["stretches"]) fun _ _ _ _ _ _ us hl => match us, hl with | [_], _ => rfl
  obtain ⟨fd_touches, F_touches⟩ := c.fn 2 (a := at1 "touches") (x := "touches") (q := "touches") (st := s_touches) rfl
  have B_touches := F_touches.binds (ps := ["part", "low"]) fun _ _ _ _ _ _ us hl => match us, hl with | [_, _], _ => rfl
  obtain ⟨fd_later_end, F_later_end⟩ := c.fn 3 (a := at1 "later_end") (x := "later_end") (q := "later_end") (st := s_later_end) rfl
  have B_later_end := F_later_end.binds (ps := ["one", "other"]) fun _ _ _ _ _ _ us hl => match us, hl with | [_, _], _ => rfl
  obtain ⟨fd_gaps, F_gaps⟩ := c.fn 4 (a := at1 "gaps") (x := "gaps") (q := "gaps") (st := s_gaps) rfl
  have B_gaps := F_gaps.binds (ps := ["parts"]) fun _ _ _ _ _ _ us hl => match us, hl with | [_], _ => rfl
  obtain ⟨fd_in_parts, F_in_parts⟩ := c.fn 5 (a := at1 "in_parts") (x := "in_parts") (q := "in_parts") (st := s_in_parts) rfl
  have B_in_parts := F_in_parts.binds (ps := ["parts", "number"]) fun _ _ _ _ _ _ us hl => match us, hl with | [_, _], _ => rfl
  obtain ⟨fd_pen, F_pen⟩ := c.fn 6 (a := at1 "_law_pen") (x := "_law_pen") (q := "_law_pen") (st := s_pen) rfl
  have B_pen := F_pen.binds (ps := ["_law_script"]) fun _ _ _ _ _ _ us hl => match us, hl with | [_], _ => rfl
  obtain ⟨fd_draw, F_draw⟩ := c.fn 7 (a := at1 "_law_draw") (x := "_law_draw") (q := "_law_draw") (st := s_draw) rfl
  have B_draw := F_draw.binds (ps := ["_law_pen_here", "_law_many"]) fun _ _ _ _ _ _ us hl => match us, hl with | [_, _], _ => rfl
  obtain ⟨fd_end, F_end⟩ := c.fn 8 (a := at1 "_law_end") (x := "_law_end") (q := "_law_end") (st := s_end) rfl
  have B_end := F_end.binds (ps := ["_law_pen_here"]) fun _ _ _ _ _ _ us hl => match us, hl with | [_], _ => rfl
  obtain ⟨fd_stretches, F_stretches⟩ := c.fn 9 (a := at1 "_law_stretches") (x := "_law_stretches") (q := "_law_stretches") (st := s_stretches) rfl
  have B_stretches := F_stretches.binds (ps := ["_law_pen_here", "_law_most"]) fun _ _ _ _ _ _ us hl => match us, hl with | [_, _], _ => rfl
  obtain ⟨fd_has, F_has⟩ := c.fn 10 (a := at1 "_law_has") (x := "_law_has") (q := "_law_has") (st := s_has) rfl
  have B_has := F_has.binds (ps := ["_law_stretches_here", "_law_number"]) fun _ _ _ _ _ _ us hl => match us, hl with | [_, _], _ => rfl
  obtain ⟨fd_points, F_points⟩ := c.fn 11 (a := at1 "_law_points") (x := "_law_points") (q := "_law_points") (st := s_points) rfl
  have B_points := F_points.binds (ps := ["_law_stretches_here"]) fun _ _ _ _ _ _ us hl => match us, hl with | [_], _ => rfl
  obtain ⟨fd_is_joined, F_is_joined⟩ := c.fn 12 (a := at1 "_law_is_joined") (x := "_law_is_joined") (q := "_law_is_joined") (st := s_is_joined) rfl
  have B_is_joined := F_is_joined.binds (ps := ["_law_parts"]) fun _ _ _ _ _ _ us hl => match us, hl with | [_], _ => rfl
  obtain ⟨fd_made, F_made⟩ := c.fn 13 (a := at1 "_law_made") (x := "_law_made") (q := "_law_made") (st := s_made) rfl
  have B_made := F_made.binds (ps := ["_law_pen_here", "_law_stretches_here"]) fun _ _ _ _ _ _ us hl => match us, hl with | [_, _], _ => rfl
  obtain ⟨fd_near, F_near⟩ := c.fn 14 (a := at1 "_law_near") (x := "_law_near") (q := "_law_near") (st := s_near) rfl
  have B_near := F_near.binds (ps := ["_law_pen_here", "_law_stretches_here"]) fun _ _ _ _ _ _ us hl => match us, hl with | [_, _], _ => rfl
  obtain ⟨fd_outcome_right, F_outcome_right⟩ := c.fn 15 (a := at1 "_law_outcome_right") (x := "_law_outcome_right") (q := "_law_outcome_right") (st := s_outcome_right) rfl
  have B_outcome_right := F_outcome_right.binds (ps := ["_law_found", "_law_one", "_law_other", "_law_word"]) fun _ _ _ _ _ _ us hl => match us, hl with | [_, _, _, _], _ => rfl
  obtain ⟨fd_is_less, F_is_less⟩ := c.fn 16 (a := at1 "_law_is_less") (x := "_law_is_less") (q := "_law_is_less") (st := s_is_less) rfl
  have B_is_less := F_is_less.binds (ps := ["_law_one", "_law_other"]) fun _ _ _ _ _ _ us hl => match us, hl with | [_, _], _ => rfl
  obtain ⟨fd_law, D_law⟩ := He5.SaysA.def_ c.2 17 (d := dfn (at1 "law") "law" "law" s_law) rfl
  have F_law : Fun K "law" "law" s_law (He.ga K "law") fd_law := He5.fun_of D_law
  have bl := FunD.bindsA (ps := ["_law_script"]) D_law fun _ _ _ _ _ _ us hl => match us, hl with | [_], _ => rfl
  obtain ⟨fd_init, F_init⟩ : ∃ fd, Fun K "__init__" "Ranges.__init__" s_Ranges__init (He.ma K (He.ga K "Ranges") "__init__") fd := c.fn 18 (a := atM "__init__") (x := "__init__") (q := "Ranges.__init__") (st := s_Ranges__init) rfl
  have B_init := F_init.binds (ps := ["self", "parts"]) fun _ _ _ _ _ _ us hl => match us, hl with | [_, _], _ => rfl
  obtain ⟨fd_or, F_or⟩ : ∃ fd, Fun K "__or__" "Ranges.__or__" s_Ranges__or (He.ma K (He.ga K "Ranges") "__or__") fd := c.fn 19 (a := atM "__or__") (x := "__or__") (q := "Ranges.__or__") (st := s_Ranges__or) rfl
  have B_or := F_or.binds (ps := ["self", "other"]) fun _ _ _ _ _ _ us hl => match us, hl with | [_, _], _ => rfl
  obtain ⟨fd_and, F_and⟩ : ∃ fd, Fun K "__and__" "Ranges.__and__" s_Ranges__and (He.ma K (He.ga K "Ranges") "__and__") fd := c.fn 20 (a := atM "__and__") (x := "__and__") (q := "Ranges.__and__") (st := s_Ranges__and) rfl
  have B_and := F_and.binds (ps := ["self", "other"]) fun _ _ _ _ _ _ us hl => match us, hl with | [_, _], _ => rfl
  obtain ⟨fd_sub, F_sub⟩ : ∃ fd, Fun K "__sub__" "Ranges.__sub__" s_Ranges__sub (He.ma K (He.ga K "Ranges") "__sub__") fd := c.fn 21 (a := atM "__sub__") (x := "__sub__") (q := "Ranges.__sub__") (st := s_Ranges__sub) rfl
  have B_sub := F_sub.binds (ps := ["self", "other"]) fun _ _ _ _ _ _ us hl => match us, hl with | [_, _], _ => rfl
  obtain ⟨fd_eq, F_eq⟩ : ∃ fd, Fun K "__eq__" "Ranges.__eq__" s_Ranges__eq (He.ma K (He.ga K "Ranges") "__eq__") fd := c.fn 22 (a := atM "__eq__") (x := "__eq__") (q := "Ranges.__eq__") (st := s_Ranges__eq) rfl
  have B_eq := F_eq.binds (ps := ["self", "other"]) fun _ _ _ _ _ _ us hl => match us, hl with | [_, _], _ => rfl
  obtain ⟨fd_contains, F_contains⟩ : ∃ fd, Fun K "__contains__" "Ranges.__contains__" s_Ranges__contains (He.ma K (He.ga K "Ranges") "__contains__") fd := c.fn 23 (a := atM "__contains__") (x := "__contains__") (q := "Ranges.__contains__") (st := s_Ranges__contains) rfl
  have B_contains := F_contains.binds (ps := ["self", "value"]) fun _ _ _ _ _ _ us hl => match us, hl with | [_, _], _ => rfl
  obtain ⟨fd_bool, F_bool⟩ : ∃ fd, Fun K "__bool__" "Ranges.__bool__" s_Ranges__bool (He.ma K (He.ga K "Ranges") "__bool__") fd := c.fn 24 (a := atM "__bool__") (x := "__bool__") (q := "Ranges.__bool__") (st := s_Ranges__bool) rfl
  have B_bool := F_bool.binds (ps := ["self"]) fun _ _ _ _ _ _ us hl => match us, hl with | [_], _ => rfl
  obtain ⟨fd_is_within, F_is_within⟩ : ∃ fd, Fun K "is_within" "Ranges.is_within" s_Ranges_is_within (He.ma K (He.ga K "Ranges") "is_within") fd := c.fn 25 (a := atM "is_within") (x := "is_within") (q := "Ranges.is_within") (st := s_Ranges_is_within) rfl
  have B_is_within := F_is_within.binds (ps := ["self", "b"]) fun _ _ _ _ _ _ us hl => match us, hl with | [_, _], _ => rfl
  obtain ⟨fd_of, F_of⟩ : ∃ fd, Fun K "of" "Ranges.of" s_Ranges_of (He5.wf K (He.ga K "Ranges") "classmethod" "of") fd := c.fn 26 (a := atC "of") (x := "of") (q := "Ranges.of") (st := s_Ranges_of) rfl
  obtain ⟨fd_between, F_between⟩ : ∃ fd, Fun K "between" "Ranges.between" s_Ranges_between (He5.wf K (He.ga K "Ranges") "classmethod" "between") fd := c.fn 27 (a := atC "between") (x := "between") (q := "Ranges.between") (st := s_Ranges_between) rfl
  have B_between := F_between.binds (ps := ["cls", "low", "high"]) fun _ _ _ _ _ _ us hl => match us, hl with | [_, _, _], _ => rfl
  obtain ⟨fd_full, F_full⟩ : ∃ fd, Fun K "full" "Ranges.full" s_Ranges_full (He5.wf K (He.ga K "Ranges") "classmethod" "full") fd := c.fn 28 (a := atC "full") (x := "full") (q := "Ranges.full") (st := s_Ranges_full) rfl
  have B_full := F_full.binds (ps := ["cls"]) fun _ _ _ _ _ _ us hl => match us, hl with | [_], _ => rfl
  obtain ⟨fd_empty, F_empty⟩ : ∃ fd, Fun K "empty" "Ranges.empty" s_Ranges_empty (He5.wf K (He.ga K "Ranges") "classmethod" "empty") fd := c.fn 29 (a := atC "empty") (x := "empty") (q := "Ranges.empty") (st := s_Ranges_empty) rfl
  have B_empty := F_empty.binds (ps := ["cls"]) fun _ _ _ _ _ _ us hl => match us, hl with | [_], _ => rfl
  generalize eC : He.ga K "Ranges" = C at *
  have e := hfa.symm.trans g_law
  cases e
  have T : ClsT K mg C (He.ma K C "__init__") (He.ma K C "__eq__") := ⟨cCl, cNo_parts, cMk, g_C, cX.self, ⟨m_eq.1, cX.ne, m_eq.2, ⟨cX.ob, cX.sub _ (by decide), cX.sub _ (by decide), cX.sub _ (by decide), cX.sub _ (by decide), cX.sub _ (by decide), cX.sub _ (by decide)⟩⟩, cX.cls, cX.get, cX.tk, cX.mro, cX.own,
    cX.kit _ (by decide), cX.kit _ (by decide), cX.kit _ (by decide), cX.kit _ (by decide), cX.kit _ (by decide), cX.kit _ (by decide)⟩
  have CM : ClsM K C (.type "type") _ _ _ _ _ _ _ _ (He.ma K C "__or__") := ⟨cX.rd, cX.met "empty" (by decide), cX.met "between" (by decide), cX.met "of" (by decide), cX.met "full" (by decide), cX.self, m_or.1, m_or.2⟩
  have CK : ClsK K C (He.ma K C "__contains__") (He.ma K C "__bool__") := ⟨m_contains.1, m_contains.2, m_bool.1, m_bool.2⟩
  have CN : ClsN K C (He.ma K C "__and__") (He.ma K C "__sub__") (He.ma K C "is_within") := ⟨m_and.1, m_and.2, m_sub.1, m_sub.2, m_is_within⟩
  refine ⟨fd_law, fun s v => bl s [v] rfl, fun base _ _ => ?_⟩
  have G_joined := ok_joined (P := P) (w := w) (mg := mg) (base := base) F_joined F_start_of B_start_of g_start_of F_touches B_touches g_touches F_later_end B_later_end g_later_end z_max z_sorted z_tuple
  have R : ClsR P w K mg base C _ _ _ _ (He.ma K C "__or__") (He.ma K C "__eq__") := ⟨FnOk.raw (ok_empty F_empty F_init B_init T) B_empty .nil, FnOk.raw (ok_between F_between F_init B_init T) B_between .nil, ok_of F_of F_init B_init T F_joined B_joined g_joined G_joined,
    FnOk.raw (ok_full F_full F_init B_init T) B_full .nil, FnOk.raw (ok_or F_or F_init B_init T F_joined B_joined g_joined G_joined) B_or .nil, FnOk.raw (ok_eq F_eq T z_isinstance) B_eq .nil⟩
  have R_contains : FnR P w K mg base CX0 2 (He.ma K C "__contains__") (fun vs H Q E => sp_contains K C (vs ++ []) H Q E) := FnOk.raw (ok_contains F_contains T z_isinstance z_int z_bool z_len F_in_parts B_in_parts g_in_parts) B_contains .nil
  have R_bool : FnR P w K mg base CX0 1 (He.ma K C "__bool__") (fun vs H Q E => sp_bool C (vs ++ []) H Q E) := FnOk.raw (ok_bool F_bool T z_bool) B_bool .nil
  have R_and : FnR P w K mg base CX0 5 (He.ma K C "__and__") (mAnd C) := FnOk.raw (ok_and F_and F_init B_init T F_joined B_joined g_joined G_joined F_gaps B_gaps g_gaps z_tuple) B_and .nil
  have R_sub : FnR P w K mg base CX0 5 (He.ma K C "__sub__") (mSub C) := FnOk.raw (ok_sub F_sub F_init B_init T F_joined B_joined g_joined G_joined F_gaps B_gaps g_gaps z_tuple) B_sub .nil
  have R_is_within : FnR P w K mg base CX0 6 (He.ma K C "is_within") (mWi C) := FnOk.raw (ok_within F_is_within T CM CN CK R_sub R_bool) B_is_within .nil
  have G_pen := ok_pen (P := P) (w := w) (mg := mg) (base := base) F_pen z_list
  have G_draw := ok_draw (P := P) (w := w) (mg := mg) (base := base) F_draw z_int z_len z_abs
  have G_end := ok_end (P := P) (w := w) (mg := mg) (base := base) F_end F_draw B_draw g_draw G_draw
  have G_stretches := ok_stretches (P := P) (w := w) (mg := mg) (base := base) F_stretches F_draw B_draw g_draw G_draw F_end B_end g_end G_end z_range z_int z_min
  have G_has := ok_has (P := P) (w := w) (mg := mg) (base := base) F_has
  have G_points := ok_points (P := P) (w := w) (mg := mg) (base := base) F_points
  have G_is_joined := ok_is_joined (P := P) (w := w) (mg := mg) (base := base) F_is_joined z_isinstance z_tuple z_int z_bool z_len z_enumerate
  have G_made := ok_made F_made F_draw B_draw g_draw G_draw CM R g_C z_list z_len
  have G_near := ok_near (P := P) (w := w) (mg := mg) (base := base) F_near F_draw B_draw g_draw G_draw F_stretches B_stretches g_stretches G_stretches
  have G_outcome_right := ok_outcome F_outcome_right T CK R_contains F_is_joined B_is_joined g_is_joined G_is_joined F_points B_points g_points G_points F_has B_has g_has G_has z_list
  have G_is_less := ok_is_less (P := P) (w := w) (mg := mg) (base := base) F_is_less F_points B_points g_points G_points F_has B_has g_has G_has
  exact ok_law F_law T CK CM CN R R_bool R_and R_sub R_is_within F_pen B_pen g_pen G_pen F_stretches B_stretches g_stretches G_stretches F_made B_made g_made G_made F_near B_near g_near G_near F_outcome_right B_outcome_right g_outcome_right G_outcome_right F_is_less B_is_less g_is_less G_is_less g_C z_range z_bool
end Spk
open PySem PySem.W PySem.Calls PyProof.Rows
theorem PySem.Challenge.cw_speaklast_k02_sets_joined_and_cut_holds : PySem.Challenge.rw_speaklast_k02_sets_joined_and_cut.Holds := by
  w_on; o_law
  refine HandSHeadRun.head_any (r := Spk.Rw) (q := view Spk.Rw.prog [21]) (H := Spk.hk) (ob := Spk.obT) (M := 4000) (loose := Spk.loose) (d := HandSHeadRun.topDef Spk.Rw.prog 21) (kwd := []) Spk.obT_eq
    (by kernel_rfl) (fun s => by kernel_rfl) Spk.runs (by kernel_rfl) (by kernel_rfl) (by kernel_rfl) (by rfl) (by first | assumption | decide +kernel) (by decide +kernel) ⟨rfl, rfl, rfl, rfl, rfl, by decide +kernel⟩ ?hw ?hc
  case hw => w_witness2
  case hc =>
    refine L2.walk_ofE (l := PySem.Challenge.rw_speaklast_k02_sets_joined_and_cut) (n := 63) (k := 8) (x := "_law_script") (CX := L2.CX0) rfl (by decide) (by kernel_rfl) ⟨rfl, by decide, by decide⟩ ?F (fun _ _ _ _ z => z)
    intro w mg fa h Y G hmg0
    obtain ⟨K, KX, c⟩ := Y
    have hmg : mg ("law" : PySem.Str) = some (.ref fa) := by
      have e : (HandSHeadRun.topDef Spk.Rw.prog 21).name = ("law" : PySem.Str) := by kernel_rfl
      rw [← e]
      exact hmg0
    obtain ⟨fd, hb, hF⟩ := Spk.facts (P := (PySem.Challenge.rw_speaklast_k02_sets_joined_and_cut).prog) (w := w) KX G hmg c
    exact ⟨K, fd, Spk.sp_law K, KX, hb, fun H a ns hl _ hS => ⟨a, ns, rfl, hS, hl, fun _ => rfl⟩, hF⟩

