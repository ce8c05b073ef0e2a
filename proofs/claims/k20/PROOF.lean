import PyProof.Rows.All
import Wide.All
import OpenK.AllK
import Wide.FinOn
import Lean
import PyProof.EqAt
import PyProof.EqKinds
import PyProof.TupleCall
import PyProof.ZipIter
import PyProof.Draws
import PyProof.TupleIter
import PySem.Value
import PyProof.NeKinds
import PyProof.ExcClass2
import PyProof.StationsW
import OpenK.KOwn
import KE.KIsAll
import PyProof.RulesAs
import PyProof.NsDelKeeps
import PyProof.PassesOwn
import PyProof.ExcArgsOwn
import PyProof.IsiH_list
import PyProof.EnumMake
import PyProof.EnumFor
import PyProof.WalksEnum
import PyProof.Rows.EnumRows
import PyProof.SumWalk
import PyProof.StrCalls
import PyProof.Rows.StrJoin2
import PyProof.WalkInts
import KE.KDictOf
import KE.KEqDict
import PySem.Challenge.RW_keeper_k20_rules
set_option Elab.async false
set_option linter.all false
set_option maxRecDepth 100000
section
namespace L2
open PySem PySem.Spec PyProof.Rows
def HB (base : Heap) (A : Around) : Prop := A.handled = none ∨ ∃ a oe vs, A.handled = some (.ref a) ∧ base.get? a = some oe ∧ oe.data = .fields vs ∧ vs[2]? = some .none
def HBp (base : Heap) (pn : List (Addr × Obj)) (A : Around) : Prop := A.handled = none ∨ ∃ a oe vs, A.handled = some (.ref a) ∧ (base.get? a = some oe ∨ (a, oe) ∈ pn) ∧ oe.data = .fields vs ∧ vs[2]? = some .none
theorem HB.toP {base : Heap} {pn : List (Addr × Obj)} {A : Around} (h : HB base A) : HBp base pn A := by
  rcases h with h | ⟨a, oe, vs, e1, e2, e3⟩
  · exact .inl h
  · exact .inr ⟨a, oe, vs, e1, .inl e2, e3⟩
theorem ent_unchain : entryFor table "proto.unchain" = some Builtin.«proto.unchain» := entryFor_of_tree (by kernel_rfl)
section
variable {prog : Program} {w : World} {A : Around} {E : Value → Shared → Prop} {s : Shared} {base : Heap}
theorem HB.mono {h h' : Heap} (hb : HB h A) (hk : ∀ a o, A.handled = some (.ref a) → h.get? a = some o → h'.get? a = some o) : HB h' A := by
  rcases hb with hb | ⟨a, oe, vs, e1, e2, e3⟩
  · exact .inl hb
  · exact .inr ⟨a, oe, vs, e1, hk a oe e1 e2, e3⟩
theorem HB.in1 (h : HB base A) : HB base A.in1 := h
theorem un_chain {n a : Addr} {oe : Obj} {vs : Array Value} {Q : Value → Shared → Prop} (he : s.heap.get? a = some oe) (hd : oe.data = .fields vs) (h2 : vs[2]? = some .none) (h : Q .none s) :
    wpAny (model prog w) A (runValue (.builtin "proto.unchain" ⟨[.ref n, .ref a, .ref a, .bool false], []⟩)) Q E s := by
  refine wpAny_runValue (codeAny_builtin ent_unchain ?_)
  show wpAny _ _ (field (.ref a) 2 >>= _) _ _ s
  refine wpAny_bind (wpAny_field he hd h2 ?_)
  rw [if_pos (show (Value.none == Value.none) = true by rfl)]
  exact wpAny_pure h
theorem stop_made {α : Type} {Q : α → Shared → Prop} (hb : HB s.heap A)
    (hE : ∀ h' e, (∀ b o, s.heap.get? b = some o → h'.get? b = some o) → (∃ o, h'.get? e = some o ∧ o.cls = .type "StopIteration") → E (.ref e) { s with heap := h' }) :
    wpAny (model prog w) A (newExc (.type "StopIteration") [] >>= fun e => (raiseNew e : Sem α)) Q E s := by
  refine wpAny_bind ?_
  simp only [newExc, newTuple]
  refine wpAny_bind (wpAny_newObj_type ?_ (by size_fits))
  refine wpAny_bind (m := firstArgMember _ _) (wpAny_of_eq (a := Value.none) (by first | rfl | (simp only [firstArgMember]; rfl)) ?_)
  refine wpAny_newObj_type ?_ (by size_fits)
  simp only [raiseNew]
  refine wpAny_bind (wpAny_handled ?_)
  rcases hb with hb | ⟨a, oe, vs, hb, e1, e2, e3⟩
  · rw [hb]
    refine wpAny_bind (wpAny_pure (wpAny_throw (hE _ _ (fun b o e => Heap.get?_push_of_some _ (Heap.get?_push_of_some _ e)) ⟨_, Heap.get?_push_size _ rfl, rfl⟩)))
  · rw [hb]
    have ea := e1
    have lt := Heap.lt_size ea
    have ne : a ≠ (s.heap.push { cls := .type "tuple", data := .seq #[] }).objs.size := by
      rw [Heap.size_push]
      exact Nat.ne_of_lt (Nat.lt_succ_of_lt lt)
    dsimp only
    rw [if_pos (by simpa using ne)]
    refine wpAny_bind (wpAny_holding (un_chain (Heap.get?_push_of_some _ (Heap.get?_push_of_some _ ea)) e2 e3 ?_))
    refine wpAny_bind ?_
    show wpAny (model prog w) A (setField (.ref _) 2 (.ref a)) _ _ _
    refine wpAny_setField (Heap.get?_push_size _ rfl) rfl (by simp; omega) (wpAny_throw (hE _ _ (fun b o e => ?_) ⟨_, Heap.get?_update_self _ (Heap.get?_push_size _ rfl) (Obj.isFreed_of_fields (Obj.data_mapFields rfl _)), Obj.cls_mapFields _ _⟩))
    rw [Heap.get?_update_other _ _ ?_]
    · exact Heap.get?_push_of_some _ (Heap.get?_push_of_some _ e)
    · have := Heap.lt_size e
      intro z
      rw [← z, Heap.size_push] at this
      exact Nat.not_succ_lt_self this
theorem is_stop {Q : Bool → Shared → Prop} {h' : Heap} {e : Addr} (he : ∃ o, h'.get? e = some o ∧ o.cls = .type "StopIteration") (h : Q true { s with heap := h' }) : wpAny (model prog w) A (isInstance (.ref e) (.type "StopIteration")) Q E { s with heap := h' } := by
  obtain ⟨o, ho, hc⟩ := he
  exact wpAny_isInstance (T := "StopIteration") (b := true) ⟨o, ho, hc⟩ isSubtype_stop h
theorem HB.upd {it : Addr} {f : Obj → Obj} (hb : HB s.heap A) (na : ∀ a, A.handled = some (.ref a) → a ≠ it) : HB (s.heap.update it f) A := hb.mono fun a o e1 e2 => (Heap.get?_update_other _ _ (Ne.symm (na a e1))).trans e2
theorem ext_upd {it : Addr} {f : Obj → Obj} {h' : Heap} (k : ∀ b o, (s.heap.update it f).get? b = some o → h'.get? b = some o) : Heap.ExtBut it s.heap h' := fun b o hb e => k b o ((Heap.get?_update_other _ _ (Ne.symm hb)).trans e)
theorem next_list_end {it l : Addr} {i : Nat} {items : Array Value} {Q : Option Value → Shared → Prop} (hb : HB s.heap A) (na : ∀ a, A.handled = some (.ref a) → a ≠ it) (hit : s.heap.IsListIter it l i) (hl : s.heap.IsList l items) (hx : items[i]? = none)
    (hQ : ∀ h', Heap.ExtBut it s.heap h' → Q none { s with heap := h' }) : wpAny (model prog w) A (pyNext (.ref it)) Q E s := by
  obtain ⟨o, ho, hc, hd⟩ := id hit
  obtain ⟨ol, hol, _, nl, hdl⟩ := hl
  unfold pyNext
  refine wpAny_bind (wpAny_attempt (wpAny_callSpecial?_slot (name := Str.ofString "__next__") hit.typeIs slot_listiter_next (wpAny_call_entry slot_listiter_next hit.typeIs entry_listiter_next ?_ (args_listiter_next _))))
  show wpAny (model prog w) _ (field (.ref it) 0 >>= _) _ _ s
  refine wpAny_bind (wpAny_field ho hd (x := .ref l) rfl ?_)
  show wpAny (model prog w) _ (if (Value.ref l == Value.none) = true then _ else _) _ _ s
  rw [if_neg (show ¬ (Value.ref l == Value.none) = true from Bool.false_ne_true)]
  show wpAny (model prog w) _ (field (.ref it) 1 >>= _) _ _ s
  refine wpAny_bind (wpAny_field ho hd (x := .int i 0) rfl ?_)
  show wpAny (model prog w) _ (seqItems? (.ref l) >>= _) _ _ s
  refine wpAny_bind (wpAny_seqItems hol hdl ?_)
  simp only [Int.toNat_natCast, hx]
  refine wpAny_bind (wpAny_rule (wpAny_bind (wpAny_setField ho hd (by simp) ?_)))
  exact stop_made (A := A.in1) (hb.upd na) fun h' e k he => wpAny_bind (is_stop he (wpAny_pure (hQ h' (ext_upd k))))
theorem next_tuple_end {it l : Addr} {i : Nat} {items : Array Value} {Q : Option Value → Shared → Prop} (hb : HB s.heap A) (na : ∀ a, A.handled = some (.ref a) → a ≠ it) (hit : s.heap.IsTupleIter it l i) (hl : s.heap.IsTuple l items) (hx : items[i]? = none)
    (hQ : ∀ h', Heap.ExtBut it s.heap h' → Q none { s with heap := h' }) : wpAny (model prog w) A (pyNext (.ref it)) Q E s := by
  obtain ⟨o, ho, hc, hd⟩ := id hit
  obtain ⟨ol, hol, _, nl, hdl⟩ := hl
  unfold pyNext
  refine wpAny_bind (wpAny_attempt (wpAny_callSpecial?_slot (name := Str.ofString "__next__") hit.typeIs F.slot_tuple_iterator_next (wpAny_call_entry F.slot_tuple_iterator_next hit.typeIs F.entry_tuple_iterator_next ?_ (F.args_tuple_iterator_next_1 _))))
  show wpAny (model prog w) _ (field (.ref it) 0 >>= _) _ _ s
  refine wpAny_bind (wpAny_field ho hd (x := .ref l) rfl ?_)
  show wpAny (model prog w) _ (if (Value.ref l == Value.none) = true then _ else _) _ _ s
  rw [if_neg (show ¬ (Value.ref l == Value.none) = true from Bool.false_ne_true)]
  show wpAny (model prog w) _ (field (.ref it) 1 >>= _) _ _ s
  refine wpAny_bind (wpAny_field ho hd (x := .int i 0) rfl ?_)
  show wpAny (model prog w) _ (seqItems? (.ref l) >>= _) _ _ s
  refine wpAny_bind (wpAny_seqItems hol hdl ?_)
  simp only [Int.toNat_natCast, hx]
  refine wpAny_bind (wpAny_rule (wpAny_bind (wpAny_setField ho hd (by simp) ?_)))
  exact stop_made (A := A.in1) (hb.upd na) fun h' e k he => wpAny_bind (is_stop he (wpAny_pure (hQ h' (ext_upd k))))
theorem next_range_end {it : Addr} {x left step : Int} {Q : Option Value → Shared → Prop} (hb : HB s.heap A) (hit : IsRangeIter s.heap it x left step) (hleft : left ≤ 0)
    (hQ : ∀ h', Heap.ExtBut it s.heap h' → Q none { s with heap := h' }) : wpAny (model prog w) A (pyNext (.ref it)) Q E s := by
  have hT : s.TypeIs (.ref it) "range_iterator" := ⟨_, hit, rfl⟩
  unfold pyNext
  refine wpAny_bind (wpAny_attempt (wpAny_callSpecial?_slot (name := Str.ofString "__next__") hT F.slot_range_iterator_next (wpAny_call_entry F.slot_range_iterator_next hT F.entry_range_iterator_next ?_ (F.args_range_iterator_next_1 _))))
  show wpAny (model prog w) _ (field (.ref it) 0 >>= _) _ _ s
  refine wpAny_bind (wpAny_field hit rfl (x := rawInt x) rfl ?_)
  show wpAny (model prog w) _ (field (.ref it) 1 >>= _) _ _ s
  refine wpAny_bind (wpAny_field hit rfl (x := rawInt left) rfl ?_)
  show wpAny (model prog w) _ (field (.ref it) 2 >>= _) _ _ s
  refine wpAny_bind (wpAny_field hit rfl (x := rawInt step) rfl ?_)
  show wpAny (model prog w) _ (if left ≤ 0 then _ else _) _ _ s
  rw [if_pos hleft]
  refine wpAny_bind (wpAny_rule ?_)
  refine wpAny_bind ?_
  exact stop_made (A := A.in1) hb fun h' e k he => wpAny_bind (is_stop he (wpAny_pure (hQ h' fun b o _ eb => k b o eb)))
theorem unpackH {t : Addr} {items : Array Value} {Q : List Value → Shared → Prop} (hb : HB s.heap A) (ht : s.heap.IsTuple t items)
    (hQ : ∀ h', Heap.ExtBut s.heap.objs.size s.heap h' → Q items.toList { s with heap := h' }) : wpAny (model prog w) A (unpackItems (.ref t) items.size none) Q E s := by
  have hlt : t ≠ s.heap.objs.size := by obtain ⟨o, ho, _⟩ := ht; exact Nat.ne_of_lt (Heap.lt_size ho)
  have lta : ∀ a, A.handled = some (.ref a) → a ≠ s.heap.objs.size := fun a ea => by
    rcases hb with hb | ⟨a', oe, vs, e1, e2, _⟩
    · rw [hb] at ea; cases ea
    · rw [e1] at ea; cases ea; exact Nat.ne_of_lt (Heap.lt_size e2)
  unfold unpackItems
  refine wpAny_bind ?_
  unfold notIterableAtAll
  refine wpAny_bind (wpAny_specialOf ht.typeIs F.slot_tuple_iter.lookup (wpAny_pure ?_))
  simp only [Bool.false_eq_true, if_false]
  refine wpAny_bind (wpAny_holding (wpAny_pyIter_tuple ht ?_))
  refine wpAny_bind (wpAny_holding (wpAny_draw_tuple hlt items.size 0 _ _ ⟨_, Heap.get?_push_size _ rfl, rfl, rfl⟩ (ht.push _) (by omega) fun h₁ hit₁ hs₁ => ?_))
  rw [show List.take items.size (List.drop 0 items.toList) = items.toList by rw [List.drop_zero]; exact List.take_of_length_le (by simp), if_neg (by simp)]
  have ht₁ : h₁.IsTuple t items := (ht.push _).extBut hs₁.extBut hlt
  have hb₁ : HB h₁ A := hb.mono fun a o ea eo => hs₁.extBut a o (lta a ea) (Heap.get?_push_of_some _ eo)
  refine wpAny_bind (wpAny_holding (next_tuple_end (s := { s with heap := h₁ }) hb₁ lta hit₁ ht₁ (by simp) fun h₂ he₂ => ?_))
  simp only [Option.isSome_none, Bool.false_eq_true, if_false]
  exact wpAny_pure (hQ h₂ fun b o hb e => he₂ b o hb (hs₁.extBut b o hb (Heap.get?_push_of_some _ e)))
theorem assignH {env : Env} {elts : List Expr} {x1} {pos : Pos} {t : Addr} {items : Array Value} {Q : Unit → Shared → Prop} (hb : HB s.heap A) (ht : s.heap.IsTuple t items)
    (hn : (assignEach elts env).length = items.size) (hstar : (assignEach elts env).findIdx? (·.1) = none)
    (h : ∀ h', Heap.ExtBut s.heap.objs.size s.heap h' → wpAny (model prog w) A (assignInOrder ((assignEach elts env).map (·.2)) items.toList) Q E { s with heap := h' }) : wpAny (model prog w) A (assign (.Tuple elts x1 pos) env (.ref t)) Q E s := by
  rw [arm_assign_Tuple]
  refine wpAny_bind (wpAny_standAt ?_)
  unfold unpack
  rw [hn, hstar]
  exact wpAny_bind (wpAny_holding (unpackH hb ht h))
end
theorem range_item {prog : Program} {w : World} {A : Around} {s : Shared} {Q : Option Value → Shared → Prop} {E : Value → Shared → Prop} {I : Addr} {a c : Int} {n i : Nat} (hi : i < n) (st : IsRangeIter s.heap I (a + (i : Nat) * c) ((n : Int) - (i : Nat)) c)
    (hQ : ∀ v h' tk, (∃ t, v = .int (a + i * c) t) → IsRangeIter h' I (a + ((i + 1 : Nat) : Int) * c) ((n : Int) - ((i + 1 : Nat) : Int)) c → (∀ b o, b ∉ [I] → s.heap.get? b = some o → h'.get? b = some o) → Q (some v) { s with heap := h', toks := tk }) :
    wpAny (model prog w) A (pyNext (.ref I)) Q E s := by
  refine wpAny_pyNext_range_item st (by omega) fun h' hit' hs' => hQ _ h' _ ⟨_, rfl⟩ ?_ fun b o hb e => hs'.extBut b o (fun h => hb (by simp [h])) e
  rw [show a + ((i + 1 : Nat) : Int) * c = a + (i : Int) * c + c by push_cast; rw [Int.add_mul, Int.one_mul, Int.add_assoc], show (n : Int) - ((i + 1 : Nat) : Int) = (n : Int) - (i : Int) - 1 by push_cast; omega]
  exact hit'
def hAdr (A : Around) : List Addr := match A.handled with
  | some (.ref a) => [a]
  | _ => []
theorem HB.frame {A : Around} {h h' : Heap} (hb : HB h A) (k : ∀ b ∈ hAdr A, ∀ o, h.get? b = some o → h'.get? b = some o) : HB h' A := hb.mono fun a o ea eo => k a (by unfold hAdr; rw [ea]; simp) o eo
end L2
end
section
namespace L2
open PySem PySem.Spec PyProof.Rows
abbrev Key := Sum Int Str
def keyIs : Key → Value → Bool
  | .inl k, v => Value.isInt k v
  | .inr x, v => Value.isStrOf x v
def keyH (w : World) : Key → Int
  | .inl k => hashInt k
  | .inr x => hashStr w x
theorem keyIs_shape : ∀ {k : Key} {v : Value}, keyIs k v = true → (∃ i t, k = Sum.inl i ∧ v = Value.int i t) ∨ (∃ x t, k = Sum.inr x ∧ v = Value.str x t)
  | .inl i, v, h => by
    obtain ⟨t, e⟩ := Value.isInt_shape (k := i) (v := v) h
    exact .inl ⟨i, t, rfl, e⟩
  | .inr x, v, h => by
    obtain ⟨t, e⟩ := Value.isStrOf_shape (x := x) (v := v) h
    exact .inr ⟨x, t, rfl, e⟩
theorem keyIs_int (i : Int) (t : Tok) : keyIs (.inl i) (.int i t) = true := by simp [keyIs, Value.isInt]
theorem keyIs_str (x : Str) (t : Tok) : keyIs (.inr x) (.str x t) = true := by simp [keyIs, Value.isStrOf]
theorem key_ll (a b : Int) : decide ((Sum.inl a : Key) = Sum.inl b) = (a == b) := by
  by_cases e : a = b
  · subst e; simp
  · have h : ¬ (Sum.inl a : Key) = Sum.inl b := fun q => e (Sum.inl.inj q)
    rw [decide_eq_false h]
    exact (beq_eq_false_iff_ne.mpr e).symm
theorem key_rr (a b : Str) : decide ((Sum.inr a : Key) = Sum.inr b) = decide (a = b) := by
  by_cases e : a = b
  · subst e; simp
  · have h : ¬ (Sum.inr a : Key) = Sum.inr b := fun q => e (Sum.inr.inj q)
    rw [decide_eq_false h, decide_eq_false e]
theorem key_lr (a : Int) (b : Str) : decide ((Sum.inl a : Key) = Sum.inr b) = false := decide_eq_false (fun q => nomatch q)
theorem key_rl (a : Str) (b : Int) : decide ((Sum.inr a : Key) = Sum.inl b) = false := decide_eq_false (fun q => nomatch q)
def mixKind (prog : Program) (w : World) : PySem.KeyKind prog w Key where
  is := keyIs
  hash := keyH w
  inj := fun v a b ha hb => by
    rcases keyIs_shape ha with ⟨i, t, rfl, rfl⟩ | ⟨x, t, rfl, rfl⟩
    · rcases keyIs_shape hb with ⟨j, u, rfl, e⟩ | ⟨y, u, rfl, e⟩
      · injection e with e1 _; rw [e1]
      · exact nomatch e
    · rcases keyIs_shape hb with ⟨j, u, rfl, e⟩ | ⟨y, u, rfl, e⟩
      · exact nomatch e
      · injection e with e1 _; rw [e1]
  byValue := fun k v h => by
    rcases keyIs_shape h with ⟨i, t, rfl, rfl⟩ | ⟨x, t, rfl, rfl⟩ <;> rfl
  pyHash := fun hv h => by
    rcases keyIs_shape hv with ⟨i, t, rfl, rfl⟩ | ⟨x, t, rfl, rfl⟩
    · exact wpAny_pyHash_int h
    · exact wpAny_pyHash_str h
  eqBool := fun hu hv h => by
    rcases keyIs_shape hu with ⟨i, t, rfl, rfl⟩ | ⟨x, t, rfl, rfl⟩
    · rcases keyIs_shape hv with ⟨j, u, rfl, rfl⟩ | ⟨y, u, rfl, rfl⟩
      · rw [key_ll] at h; exact wpAny_eqBool_int h
      · rw [key_lr] at h; exact SeqAt.EqAt.int_str i t y u _ _ _ _ h
    · rcases keyIs_shape hv with ⟨j, u, rfl, rfl⟩ | ⟨y, u, rfl, rfl⟩
      · rw [key_rl] at h; exact SeqAt.EqAt.str_int x t j u _ _ _ _ h
      · rw [key_rr] at h; exact wpAny_eqBool_str h
  «strs» := fun k x t v h => by
    rcases keyIs_shape h with ⟨i, u, rfl, e⟩ | ⟨y, u, rfl, e⟩
    · exact nomatch e
    · injection e with e1 _
      subst e1
      cases v <;> rfl
theorem mixKind_int (prog : Program) (w : World) (i : Int) (t : Tok) : (mixKind prog w).is (.inl i) (.int i t) = true := keyIs_int i t
theorem mixKind_str (prog : Program) (w : World) (x : Str) (t : Tok) : (mixKind prog w).is (.inr x) (.str x t) = true := keyIs_str x t
end L2
namespace L2
open PySem PySem.Spec PyProof.Rows
inductive V where
  | non | bl (b : Bool) | int (i : Int) | str (x : Str) | byt (b : Array UInt8) | flt (b : UInt64) | ref (a : Addr) | ty (n : String)
  deriving DecidableEq
def RelV : V → Value → Prop
  | .non, u => u = Value.none
  | .bl b, u => u = Value.bool b
  | .int i, u => ∃ t, u = Value.int i t
  | .str x, u => ∃ t, u = Value.str x t
  | .byt b, u => ∃ t, u = Value.bytes b t
  | .flt b, u => ∃ t, u = Value.float b t
  | .ref a, u => u = Value.ref a
  | .ty n, u => u = Value.type n
abbrev Vals : List V → List Value → Prop := Paired RelV
theorem Vals.length {xs : List V} {us : List Value} (r : Vals xs us) : xs.length = us.length := Paired.length r
theorem Vals.get : ∀ {xs : List V} {us : List Value} {i : Nat} {x : V}, Vals xs us → xs[i]? = some x → ∃ u, us[i]? = some u ∧ RelV x u
  | _, _, _, _, .nil, e => by simp at e
  | _, _, 0, _, .cons r _, e => by simp at e; subst e; exact ⟨_, rfl, r⟩
  | _, _, i + 1, x, .cons _ t, e => by
    obtain ⟨u, h1, h2⟩ := Vals.get (i := i) (x := x) t (by simpa using e)
    exact ⟨u, by simpa using h1, h2⟩
theorem Vals.set {x : V} {u : Value} (r : RelV x u) : ∀ {xs : List V} {us : List Value} (i : Nat), Vals xs us → Vals (xs.set i x) (us.set i u)
  | _, _, _, .nil => .nil
  | _, _, 0, .cons _ t => .cons r t
  | _, _, i + 1, .cons q t => .cons q (Vals.set r i t)
theorem Vals.append : ∀ {xs ys : List V} {us ws : List Value}, Vals xs us → Vals ys ws → Vals (xs ++ ys) (us ++ ws)
  | _, _, _, _, .nil, s => s
  | _, _, _, _, .cons r t, s => .cons r (Vals.append t s)
theorem Vals.take : ∀ {xs : List V} {us : List Value} (n : Nat), Vals xs us → Vals (xs.take n) (us.take n)
  | _, _, 0, _ => .nil
  | _, _, _ + 1, .nil => .nil
  | _, _, n + 1, .cons r t => .cons r (Vals.take n t)
theorem Vals.drop : ∀ {xs : List V} {us : List Value} (n : Nat), Vals xs us → Vals (xs.drop n) (us.drop n)
  | _, _, 0, r => r
  | _, _, _ + 1, .nil => .nil
  | _, _, n + 1, .cons _ t => Vals.drop n t
def RelO : Option V → Option Value → Prop
  | some v, some u => RelV v u
  | none, none => True
  | _, _ => False
def KV {κ : Type} : List (κ × V) → List (κ × Value) → Prop := Paired fun (p : κ × V) (q : κ × Value) => p.1 = q.1 ∧ RelV p.2 q.2
def kV : Key → V
  | .inl i => .int i
  | .inr x => .str x
inductive HO where
  /-- a list -/
  | lst (xs : List V)
  /-- a tuple (never changes) -/
  | tup (xs : List V)
  /-- a dict whose keys are ints and texts; one whose keys are tuples of ints and texts (the empty one is both) -/
  | dK (kvs : List (Key × V)) | dT (kvs : List (List Key × V))
  /-- a set of ints: its members, its size -/
  | set (S : Int → Bool) (n : Nat)
  /-- an instance of the class at C, its dict at dx, its attributes -/
  | ins (C dx : Addr) (fs : List (Str × V))
  /-- the dict of the instance at x -/
  | own (x : Addr)
  /-- the dict of an exception -/
  | xd (fs : List (Str × V))
  /-- a bound method, f of x -/
  | met (f x : Addr)
  /-- a range object lo, lo + 1, .. below hi -/
  | rng (lo hi : Int)
  /-- a thing that is known to the object (the script; a dict while a loop walks it): read, never written while it is so -/
  | frz (o : Obj) (u : HO)
  /-- a code object's table -/
  | tbl (ps : Array Value)
  /-- any other thing, by what is true of its one object (a def of one's own: SetO a S n := HO.ext fun h => ..) -/
  | ext (φ : Heap → Prop)
abbrev Hp := Addr → Option HO
def upd (H : Hp) (a : Addr) (o : HO) : Hp := fun b => if b = a then some o else H b
theorem upd_same {H : Hp} {a : Addr} {o : HO} : upd H a o a = some o := by unfold upd; rw [if_pos rfl]
theorem upd_ne {H : Hp} {a b : Addr} {o : HO} (h : b ≠ a) : upd H a o b = H b := by unfold upd; rw [if_neg h]
theorem upd_upd {H : Hp} {a : Addr} {o u : HO} : upd (upd H a o) a u = upd H a u := by
  funext b; unfold upd; split <;> rfl
theorem ne_of {H : Hp} {a b : Addr} {o u : HO} (h : H a = some o) (h' : H b = some u) (d : o ≠ u) : a ≠ b := by
  intro e; subst e; rw [h] at h'; exact d (Option.some.inj h')
theorem ne_of_none {H : Hp} {a b : Addr} {o : HO} (h : H a = some o) (h' : H b = none) : a ≠ b := by
  intro e; subst e; rw [h] at h'; cases h'
section
variable (P : Program) (w : World)
def ObjOk (H : Hp) (h : Heap) (a : Addr) : HO → Prop
  | .lst xs => xs.length ≤ sizeLine ∧ ∃ (its : List Value) (n : Nat), Vals xs its ∧ h.get? a = some { cls := .type "list", data := .seq its.toArray n }
  | .tup xs => xs.length ≤ sizeLine ∧ ∃ its : List Value, Vals xs its ∧ IsTup h a its.toArray
  | .dK kvs => kvs.length ≤ sizeLine ∧ (a == sysModules) = false ∧ ∃ vs, KV kvs vs ∧ h.DictOf (mixKind P w) a vs
  | .dT kvs => kvs.length ≤ sizeLine ∧ (a == sysModules) = false ∧ ∃ xs : List (List Key × Addr × Value),
      Paired (fun (p : List Key × V) (q : List Key × Addr × Value) => p.1 = q.1 ∧ H q.2.1 = some (.tup (p.1.map kV)) ∧ RelV p.2 q.2.2) kvs xs ∧
      ∃ o es ep, h.get? a = some o ∧ o.ExactDict ∧ o.data = .dict es ep ∧ es.toList = xs.map (entryOfKey (tupleKind (mixKind P w))) ∧ (xs.map (·.1)).Nodup
  | .set S n => h.SetOf (intKind P w) a S n
  | .ins C dx fs => H dx = some (.own a) ∧ fs.length ≤ 1000 ∧ dx ≠ a ∧ h.get? a = some (PySem.W.instObj C dx) ∧
      ∃ mA, h.Ns1 dx mA ∧ (∀ f, RelO (fs.lookup f) (mA f)) ∧ PySem.Within mA (fs.map (·.1))
  | .own _ => ∃ o, h.get? a = some o
  | .xd fs => ∃ mA, h.Ns1 a mA ∧ ∀ f, RelO (fs.lookup f) (mA f)
  | .rng lo hi => ∃ t u v, h.get? a = some { cls := .type "range", data := .fields #[.int lo t, .int hi u, .int 1 v] }
  | .frz o u => h.get? a = some o ∧ ObjOk H h a u
  | .tbl ps => h.get? a = some { cls := .none, data := .fields ps }
  | .met f x => h.get? a = some (PySem.W.methodObj (.ref f) (.ref x))
  | .ext φ => φ h ∧ (∃ o, h.get? a = some o) ∧ ∀ h1 h2 : Heap, φ h1 → (∀ o, h1.get? a = some o → h2.get? a = some o) → φ h2
def HOk (H : Hp) (h : Heap) : Prop := ∀ a o, H a = some o → ObjOk P w H h a o
end
section
variable {P : Program} {w : World} {H H' : Hp} {h h' : Heap} {a : Addr} {o : HO}
theorem ObjOk.lt (x : ObjOk P w H h a o) : a < h.objs.size := by
  cases o with
  | lst xs => obtain ⟨_, _, _, _, e⟩ := x; exact Heap.lt_size e
  | tup xs => obtain ⟨_, _, _, p⟩ := x; exact p.lt
  | dK kvs => obtain ⟨_, _, _, _, o, _, _, e, _⟩ := x; exact Heap.lt_size e
  | dT kvs => obtain ⟨_, _, _, _, o, _, _, e, _⟩ := x; exact Heap.lt_size e
  | set S n => obtain ⟨o, _, _, _, e, _⟩ := x; exact Heap.lt_size e
  | ins C dx fs => obtain ⟨_, _, _, e, _⟩ := x; exact Heap.lt_size e
  | own y => obtain ⟨_, e⟩ := x; exact Heap.lt_size e
  | xd fs => obtain ⟨_, ⟨_, _, _, e, _⟩, _⟩ := x; exact Heap.lt_size e
  | rng lo hi => obtain ⟨_, _, _, e⟩ := x; exact Heap.lt_size e
  | frz ob u => obtain ⟨e, _⟩ := x; exact Heap.lt_size e
  | tbl ps => exact Heap.lt_size (show h.get? a = some _ from x)
  | met f y => exact Heap.lt_size (show h.get? a = some _ from x)
  | ext φ => obtain ⟨_, ⟨_, e⟩, _⟩ := x; exact Heap.lt_size e
theorem Paired.mapP {α β : Type} {F G : α → β → Prop} : ∀ {l₁ : List α} {l₂ : List β}, Paired F l₁ l₂ → (∀ a b, F a b → G a b) → Paired G l₁ l₂
  | _, _, .nil, _ => .nil
  | _, _, .cons r t, f => .cons (f _ _ r) (Paired.mapP t f)
theorem ObjOk.stay (x : ObjOk P w H h a o) (k : ∀ b u, (b = a ∨ H b = some (.own a)) → h.get? b = some u → h'.get? b = some u)
    (ho : ∀ b, H b = some (.own a) → H' b = some (.own a)) (ht : ∀ b xs, H b = some (.tup xs) → H' b = some (.tup xs)) : ObjOk P w H' h' a o := by
  induction o with
  | lst xs => obtain ⟨z, its, n, r, e⟩ := x; exact ⟨z, its, n, r, k _ _ (.inl rfl) e⟩
  | tup xs => obtain ⟨z, its, r, ob, e, c⟩ := x; exact ⟨z, its, r, ob, k _ _ (.inl rfl) e, c⟩
  | dK kvs => obtain ⟨z, y, vs, r, ob, es, ep, e, c⟩ := x; exact ⟨z, y, vs, r, ob, es, ep, k _ _ (.inl rfl) e, c⟩
  | dT kvs =>
    obtain ⟨z, y, xs, r, ob, es, ep, e, c⟩ := x
    exact ⟨z, y, xs, Paired.mapP r fun p q z => ⟨z.1, ht _ _ z.2.1, z.2.2⟩, ob, es, ep, k _ _ (.inl rfl) e, c⟩
  | set S n => obtain ⟨ob, es, ep, t, e, c⟩ := x; exact ⟨ob, es, ep, t, k _ _ (.inl rfl) e, c⟩
  | ins C dx fs =>
    obtain ⟨d, z, ne, e, mA, ⟨od, es, ep, e2, c⟩, r⟩ := x
    exact ⟨ho _ d, z, ne, k _ _ (.inl rfl) e, mA, ⟨od, es, ep, k _ _ (.inr d) e2, c⟩, r⟩
  | own y => obtain ⟨ob, e⟩ := x; exact ⟨ob, k _ _ (.inl rfl) e⟩
  | xd fs => obtain ⟨mA, ⟨od, es, ep, e, c⟩, r⟩ := x; exact ⟨mA, ⟨od, es, ep, k _ _ (.inl rfl) e, c⟩, r⟩
  | rng lo hi => obtain ⟨t, u, v, e⟩ := x; exact ⟨t, u, v, k _ _ (.inl rfl) e⟩
  | frz ob u ih => obtain ⟨e, q⟩ := x; exact ⟨k _ _ (.inl rfl) e, ih q⟩
  | tbl ps =>
    have e : h.get? a = some { cls := .none, data := .fields ps } := x
    show h'.get? a = some { cls := .none, data := .fields ps }
    exact k a _ (.inl rfl) e
  | met f y =>
    have e : h.get? a = some (PySem.W.methodObj (.ref f) (.ref y)) := x
    show h'.get? a = some (PySem.W.methodObj (.ref f) (.ref y))
    exact k a _ (.inl rfl) e
  | ext φ => obtain ⟨p, ⟨o, e⟩, st⟩ := x; exact ⟨st _ _ p fun o q => k _ _ (.inl rfl) q, ⟨o, k _ _ (.inl rfl) e⟩, st⟩
theorem HOk.lt (x : HOk P w H h) (e : H a = some o) : a < h.objs.size := (x a o e).lt
theorem HOk.fresh (x : HOk P w H h) (e : h.objs.size ≤ a) : H a = none := by
  cases q : H a with
  | none => rfl
  | some u => exact absurd (Nat.lt_of_lt_of_le (x.lt q) e) (Nat.lt_irrefl _)
theorem HOk.kept (x : HOk P w H h) (k : ∀ b u, h.get? b = some u → h'.get? b = some u) : HOk P w H h' := fun a o e =>
  (x a o e).stay (fun b u _ q => k b u q) (fun _ q => q) fun _ _ q => q
theorem HOk.laid (x : HOk P w H h) (k : ∀ b u, h.get? b = some u → h'.get? b = some u) (hp : h.objs.size ≤ a) (new : ObjOk P w (upd H a o) h' a o) : HOk P w (upd H a o) h' := fun b u e => by
  have hn := x.fresh hp
  by_cases hb : b = a
  · subst hb; rw [upd_same] at e; cases e; exact new
  · rw [upd_ne hb] at e
    exact (x b u e).stay (fun c v _ q => k c v q) (fun c q => by rw [upd_ne (ne_of_none q hn)]; exact q) fun c xs q => by rw [upd_ne (ne_of_none q hn)]; exact q
end
def Rd (H : Hp) (a : Addr) (u : HO) : Prop := H a = some u ∨ ∃ o, H a = some (.frz o u)
theorem Rd.of {H : Hp} {a : Addr} {u : HO} (h : H a = some u) : Rd H a u := .inl h
theorem Rd.ok {P : Program} {w : World} {H : Hp} {h : Heap} {a : Addr} {u : HO} (r : Rd H a u) (x : HOk P w H h) : ObjOk P w H h a u := by
  rcases r with r | ⟨o, r⟩
  · exact x a u r
  · obtain ⟨_, q⟩ := x a _ r
    exact q
def Mut : Option HO → Prop
  | some (.lst _) => True
  | some (.dK _) => True
  | some (.dT _) => True
  | some (.set _ _) => True
  | some (.ins _ _ _) => True
  | some (.ext _) => True
  | _ => False
section
variable {P : Program} {w : World} {H : Hp} {h h' : Heap} {x e : Addr} {o' : HO}
theorem HOk.write (ok : HOk P w H h) (mu : Mut (H x)) (he : e = x ∨ H e = some (.own x)) (k : ∀ b u, b ≠ e → h.get? b = some u → h'.get? b = some u) (heo : ∃ u, h'.get? e = some u)
    (new : ObjOk P w (upd H x o') h' x o') : HOk P w (upd H x o') h' := fun b u q => by
  have nown : ∀ c y, H c = some (.own y) → c ≠ x := fun c y r z => by subst z; rw [r] at mu; exact mu
  have ntup : ∀ c xs, H c = some (.tup xs) → c ≠ x := fun c xs r z => by subst z; rw [r] at mu; exact mu
  by_cases hb : b = x
  · subst hb; rw [upd_same] at q; cases q; exact new
  · rw [upd_ne hb] at q
    by_cases hbe : b = e
    · have q' : H b = some (.own x) := by
        rcases he with z | z
        · exact absurd (hbe.trans z) hb
        · rw [hbe]; exact z
      rw [q] at q'; cases q'
      obtain ⟨v, hv⟩ := heo
      exact ⟨v, by rw [hbe]; exact hv⟩
    · refine (ok b u q).stay (fun c v hc r => k c v ?_ r) (fun c r => by rw [upd_ne (nown c b r)]; exact r) fun c xs r => by rw [upd_ne (ntup c xs r)]; exact r
      rcases hc with rfl | hc
      · exact hbe
      · rintro rfl
        rcases he with z | z
        · exact nown c b hc z
        · rw [hc] at z; cases z; exact hb rfl
end
structure Un (fs ex : List Addr) (H H' : Hp) (h h' : Heap) : Prop where
  keep : ∀ b o, h.get? b = some o → H b = none → b ∉ fs → b ∉ ex → h'.get? b = some o
  slot : ∀ b o, h.get? b = some o → H b = none → b ∈ fs → b ∉ ex → ∃ sl, h'.get? b = some { o with slots := sl }
  free : ∀ b o, h.get? b = some o → H b = none → b ∉ ex → H' b = none
  there : ∀ b o, h.get? b = some o → b ∉ ex → ∃ o', h'.get? b = some o'
  tups : ∀ b xs, H b = some (.tup xs) → H' b = some (.tup xs)
  frzs : ∀ b o u, H b = some (.frz o u) → H' b = some (.frz o u)
  tbls : ∀ b ps, H b = some (.tbl ps) → ∃ more, H' b = some (.tbl (ps ++ more))
section
variable {fs fs' ex ex' : List Addr} {H H1 H2 : Hp} {h h1 h2 h' : Heap} {a x e : Addr} {o : HO}
theorem Un.any (u : Un fs ex H H1 h h1) {b : Addr} {ob : Obj} (q : h.get? b = some ob) (n : H b = none) (hx : b ∉ ex) : ∃ sl, h1.get? b = some { ob with slots := sl } := by
  by_cases hb : b ∈ fs
  · exact u.slot b ob q n hb hx
  · exact ⟨ob.slots, u.keep b ob q n hb hx⟩
theorem Un.trans (a : Un fs ex H H1 h h1) (b : Un fs ex H1 H2 h1 h2) : Un fs ex H H2 h h2 where
  keep := fun c ob q n hc hx => b.keep c ob (a.keep c ob q n hc hx) (a.free c ob q n hx) hc hx
  slot := fun c ob q n hc hx => by
    obtain ⟨sl, e1⟩ := a.slot c ob q n hc hx
    obtain ⟨sl', e2⟩ := b.slot c _ e1 (a.free c ob q n hx) hc hx
    exact ⟨sl', e2⟩
  free := fun c ob q n hx => by
    obtain ⟨o', e1⟩ := a.there c ob q hx
    exact b.free c o' e1 (a.free c ob q n hx) hx
  there := fun c ob q hx => by
    obtain ⟨o', e1⟩ := a.there c ob q hx
    exact b.there c o' e1 hx
  tups := fun c xs q => b.tups c xs (a.tups c xs q)
  frzs := fun c ob xs q => b.frzs c ob xs (a.frzs c ob xs q)
  tbls := fun c ps q => by
    obtain ⟨m1, e1⟩ := a.tbls c ps q
    obtain ⟨m2, e2⟩ := b.tbls c _ e1
    exact ⟨m1 ++ m2, by rw [e2, Array.append_assoc]⟩
theorem Un.kept (k : ∀ b u, h.get? b = some u → h'.get? b = some u) : Un fs ex H H h h' :=
  ⟨fun b ob q _ _ _ => k b ob q, fun b ob q _ _ _ => ⟨ob.slots, k b ob q⟩, fun _ _ _ n _ => n, fun b ob q _ => ⟨ob, k b ob q⟩, fun _ _ q => q, fun _ _ _ q => q, fun _ ps q => ⟨#[], by rw [q]; simp⟩⟩
theorem Un.refl : Un fs ex H H h h := Un.kept fun _ _ q => q
theorem Un.laid (k : ∀ b u, h.get? b = some u → h'.get? b = some u) (hp : h.objs.size ≤ a) (hn : H a = none) : Un fs ex H (upd H a o) h h' where
  keep := fun b u q _ _ _ => k b u q
  slot := fun b u q _ _ _ => ⟨u.slots, k b u q⟩
  free := fun b u q n _ => by rw [upd_ne (Nat.ne_of_lt (Nat.lt_of_lt_of_le (Heap.lt_size q) hp))]; exact n
  there := fun b u q _ => ⟨u, k b u q⟩
  tups := fun b xs q => by rw [upd_ne (ne_of_none q hn)]; exact q
  frzs := fun b u xs q => by rw [upd_ne (ne_of_none q hn)]; exact q
  tbls := fun b ps q => ⟨#[], by rw [upd_ne (ne_of_none q hn), q]; simp⟩
theorem Un.write (mu : Mut (H x)) (he : e = x ∨ H e = some (.own x)) (k : ∀ b u, b ≠ e → h.get? b = some u → h'.get? b = some u) (heo : ∃ u, h'.get? e = some u) : Un fs ex H (upd H x o) h h' := by
  have hx : ∀ b, H b = none → b ≠ x := fun b n z => by subst z; rw [n] at mu; exact mu
  have hb : ∀ b, H b = none → b ≠ e := fun b n z => by
    subst z
    rcases he with r | r
    · exact hx b n r
    · rw [n] at r; cases r
  have hm : ∀ b u, H b = some u → ¬ Mut (some u) → b ≠ x := fun b u q nm z => by subst z; rw [q] at mu; exact nm mu
  refine ⟨fun b u q n _ _ => k b u (hb b n) q, fun b u q n _ _ => ⟨u.slots, k b u (hb b n) q⟩, fun b u q n _ => by rw [upd_ne (hx b n)]; exact n, fun b u q _ => ?_,
    fun b xs q => by rw [upd_ne (hm b _ q fun z => z)]; exact q, fun b u xs q => by rw [upd_ne (hm b _ q fun z => z)]; exact q, fun b ps q => ⟨#[], by rw [upd_ne (hm b _ q fun z => z), q]; simp⟩⟩
  by_cases hbe : b = e
  · subst hbe; exact heo
  · exact ⟨u, k b u hbe q⟩
theorem Un.mono (u : Un fs ex H H1 h h1) (hs : ∀ b ∈ fs, b ∈ fs') (hx : ∀ b ∈ ex, b ∈ ex') : Un fs' ex' H H1 h h1 :=
  ⟨fun b ob q n hb he => u.keep b ob q n (fun z => hb (hs b z)) fun z => he (hx b z), fun _ _ q n _ he => u.any q n fun z => he (hx _ z), fun b ob q n he => u.free b ob q n fun z => he (hx b z), fun b ob q he => u.there b ob q fun z => he (hx b z), u.tups, u.frzs, u.tbls⟩
end
def trk (h : Heap) (H : Hp) : List Addr := (List.range h.objs.size).filter fun a => (H a).isSome
def hidT (h : Heap) (H : Hp) : Heap := PySem.W.hideAll h (trk h H)
theorem hidT_size (h : Heap) (H : Hp) : (hidT h H).objs.size = h.objs.size := PySem.W.hideAll_size _ _
theorem hidT_get {h : Heap} {H : Hp} {b : Addr} {o : Obj} (e : h.get? b = some o) (n : H b = none) : (hidT h H).get? b = some o :=
  PySem.W.hideAll_get _ e fun hm => by
    have q : (H b).isSome = true := (List.mem_filter.mp hm).2
    rw [n] at q; simp at q
theorem of_hidT {h : Heap} {H : Hp} {b : Addr} {o : Obj} (e : (hidT h H).get? b = some o) : h.get? b = some o ∧ H b = none := by
  have e' : h.get? b = some o := PySem.W.of_hideAll (trk h H) e
  refine ⟨e', ?_⟩
  cases q : H b with
  | none => rfl
  | some x =>
    have hm : b ∈ trk h H := List.mem_filter.mpr ⟨List.mem_range.mpr (Heap.lt_size e'), by simp [q]⟩
    have z : (hidT h H).get? b = none := PySem.W.hideAll_none (trk h H) hm
    rw [z] at e; cases e
def allNews (g h : Heap) (L : Addr) : List (Addr × Obj) := (List.range h.objs.size).filterMap fun a => if a = L ∨ (g.get? a).isSome = true then none else (h.get? a).map fun o => (a, o)
def rest (g h : Heap) (L d : Addr) : List (Addr × Obj) := (allNews g h L).filter fun p => decide (p.1 ≠ d)
end L2
namespace L2
open PySem PySem.Spec PyProof.Rows
structure Mod (K : PySem.W.Frag) (mg : Str → Option Value) (base : Heap) : Prop where
  kin : K.In base
  glob : base.Ns mainGlobals mg
  blt : ∃ mb, base.Ns builtinsNs mb ∧ ∀ x : Str, x ≠ "__name__" → mb x = bootBuiltins x
  nolimit : base.NoLimit
structure Cx where
  prog : Program
  w : World
  K : PySem.W.Frag
  mg : Str → Option Value
  base : Heap
  A : Around
  N : List Str
  s₀ : Shared
  H₀ : Hp
  env : Env
  outer : List Env
  stack : List Env
  ex : List Addr
  fn : Str → Bool
  calm : Bool
  pn : List (Addr × Obj)
  xe : Value → Shared → Prop
def frs (l : List Env) : List Addr := l.filterMap (·.frame)
abbrev Cx.fs (X : Cx) : List Addr := frs X.outer
def Vis (sc : Scope) (x : Str) : Prop := sc.names.lookup x = some .local ∨ sc.names.lookup x = some .cell ∨ sc.names.lookup x = some .free
def Loc (sc : Scope) (x : Str) : Prop := sc.names.lookup x = some .local ∨ sc.names.lookup x = some .cell
def Look (env : Env) (h : Heap) (m : Str → Option Value) (x : Str) (u : Value) : Prop :=
  (env.kindOf x = some .local ∧ m x = some u) ∨ ((env.kindOf x = some .cell ∨ env.kindOf x = some .free) ∧ ∃ c, env.cells.lookup x = some c ∧ h.IsCell c (some u))
structure Cx.Ok (X : Cx) : Prop where
  mod : Mod X.K X.mg X.base
  kind : X.env.scope.kind = .function
  glob : X.env.globals = mainGlobals
  blt : X.env.builtins = builtinsNs
  above : X.s₀.heap.objs.size ≤ X.env.locals
  inj : ∀ x y c, X.env.cells.lookup x = some c → X.env.cells.lookup y = some c → x = y
  has : ∀ x, (X.env.kindOf x = some .cell ∨ X.env.kindOf x = some .free) → ∃ c, X.env.cells.lookup x = some c
  cab : ∀ x c, X.fn x = true → X.env.cells.lookup x = some c → X.s₀.heap.objs.size ≤ c
  hd : X.calm = true → HBp X.base X.pn X.A
  frames : X.A.frames = some X.stack
  stk : X.stack = X.outer ∨ (X.stack = X.env :: X.outer ∧ X.env.frame = some X.env.locals)
  exf : ∀ b ∈ X.ex, b ≠ X.env.locals ∧ ∀ x c, X.env.cells.lookup x = some c → c ≠ b
  bs : ∀ b o, X.base.get? b = some o → X.s₀.heap.get? b = some o ∧ X.H₀ b = none
  bsz : X.base.objs.size ≤ X.s₀.heap.objs.size
  noex : ∀ b o, X.base.get? b = some o → b ∉ X.ex
  exfs : ∀ b ∈ X.ex, b ∉ X.fs
  funs : X.s₀.heap.FunFrames X.base X.outer
  frf : ∀ b ∈ X.fs, X.H₀ b = none
structure Inv (X : Cx) (pins : List (Addr × Obj)) (σ : List (Option V)) (H : Hp) (s : Shared) : Prop where
  ok : X.Ok
  os : s.os = X.s₀.os
  bare : AllBare s.gens
  base : Un X.fs X.ex X.H₀ H X.s₀.heap s.heap
  loc : ∃ m, s.heap.Ns X.env.locals m ∧ ∀ (i : Nat) (x : Str) (v : V), X.N[i]? = some x → σ[i]? = some (some v) → Vis X.env.scope x → ∃ u, RelV v u ∧ Look X.env s.heap m x u
  cell : ∀ x c, X.env.cells.lookup x = some c → ∃ v, s.heap.IsCell c v
  free : H X.env.locals = none
  freeC : ∀ x c, X.env.cells.lookup x = some c → H c = none
  pin : ∀ p ∈ X.pn ++ pins, s.heap.get? p.1 = some p.2 ∧ H p.1 = none ∧ p.1 ≠ X.env.locals ∧ p.1 ∉ X.fs ∧ ∀ v, p.2.data ≠ .cell v
  hok : HOk X.prog X.w H s.heap
  len : σ.length = X.N.length
section
variable {X : Cx} {pins : List (Addr × Obj)} {σ : List (Option V)} {H H' : Hp} {s : Shared} {h' : Heap}
theorem Cx.Ok.nofr (ok : X.Ok) {b : Addr} {o : Obj} (e : X.base.get? b = some o) : b ∉ X.fs := fun hb => by
  have := (ok.funs.mem hb).1
  rw [e] at this; cases this
theorem Inv.bs (I : Inv X pins σ H s) : ∀ b o, X.base.get? b = some o → s.heap.get? b = some o ∧ H b = none := fun b o e =>
  ⟨I.base.keep b o (I.ok.bs b o e).1 (I.ok.bs b o e).2 (I.ok.nofr e) (I.ok.noex b o e), I.base.free b o (I.ok.bs b o e).1 (I.ok.bs b o e).2 (I.ok.noex b o e)⟩
theorem Inv.bk (I : Inv X pins σ H s) : ∀ b o, X.base.get? b = some o → s.heap.get? b = some o := fun b o e => (I.bs b o e).1
theorem Inv.mod (I : Inv X pins σ H s) : Mod X.K X.mg X.base := I.ok.mod
theorem Inv.hb (I : Inv X pins σ H s) (hc : X.calm = true) : HB s.heap X.A := by
  rcases I.ok.hd hc with h | ⟨a, oe, vs, e1, e2, e3⟩
  · exact .inl h
  · exact .inr ⟨a, oe, vs, e1, e2.elim (I.bk a oe) fun m => (I.pin (a, oe) (List.mem_append_left _ m)).1, e3⟩
theorem Inv.hna (I : Inv X pins σ H s) (hc : X.calm = true) {it : Addr} (f3 : it ∈ X.ex ∨ X.s₀.heap.objs.size ≤ it) (f5 : ∀ p ∈ X.pn ++ pins, p.1 ≠ it) : ∀ a, X.A.handled = some (.ref a) → a ≠ it := fun a ea z => by
  subst z
  rcases I.ok.hd hc with h | ⟨b, oe, vs, e1, e2, e3⟩
  · rw [h] at ea; cases ea
  · rw [e1] at ea
    cases ea
    rcases e2 with e2 | e2
    · rcases f3 with z | z
      · exact I.ok.noex _ _ e2 z
      · exact absurd (Nat.lt_of_lt_of_le (Heap.lt_size e2) I.ok.bsz) (Nat.not_lt.mpr z)
    · exact f5 _ (List.mem_append_left _ e2) rfl
theorem Inv.kIn (I : Inv X pins σ H s) : X.K.In s.heap := I.ok.mod.kin.keeps I.bk
theorem Inv.nolimit (I : Inv X pins σ H s) : s.heap.NoLimit := I.ok.mod.nolimit.keeps I.bk
theorem Inv.fr (I : Inv X pins σ H s) : ∃ m, Fr X.base X.env.locals s.heap m :=
  let ⟨m, hn, _⟩ := I.loc
  ⟨m, hn, I.bk, Nat.le_trans I.ok.bsz I.ok.above⟩
theorem Inv.lt (I : Inv X pins σ H s) : X.env.locals < s.heap.objs.size := let ⟨_, hn, _⟩ := I.loc; hn.lt
theorem Inv.sz (I : Inv X pins σ H s) : X.s₀.heap.objs.size ≤ s.heap.objs.size := Nat.le_trans I.ok.above (Nat.le_of_lt I.lt)
theorem Inv.nofs (I : Inv X pins σ H s) {a : Addr} (h : s.heap.objs.size ≤ a) : a ∉ X.fs := fun hb => by
  obtain ⟨_, o, ho, _⟩ := I.ok.funs.mem hb
  exact absurd (Nat.lt_of_lt_of_le (Heap.lt_size ho) (Nat.le_trans I.sz h)) (Nat.lt_irrefl _)
theorem Inv.cne (I : Inv X pins σ H s) : ∀ x c, X.env.cells.lookup x = some c → c ≠ X.env.locals := fun x c e z => by
  obtain ⟨v, o, ho, hd⟩ := I.cell x c e
  obtain ⟨m, ⟨o', es, ep, ho', hd', _⟩, _⟩ := I.loc
  rw [z, ho'] at ho; cases ho; rw [hd'] at hd; cases hd
theorem Inv.funs (I : Inv X pins σ H s) : s.heap.FunFrames X.base X.outer := by
  have all : ∀ (l : List Env), (∀ b ∈ frs l, b ∈ X.fs) → X.s₀.heap.FunFrames X.base l → s.heap.FunFrames X.base l := by
    intro l
    induction l with
    | nil => intro _ _; trivial
    | cons env r ih =>
      intro hs hl
      obtain ⟨hk, ⟨L, o, hf, hn, ho, hd⟩, hr⟩ := hl
      have hL : L ∈ X.fs := hs L (by unfold frs; rw [List.filterMap_cons, hf]; exact List.mem_cons_self)
      obtain ⟨sl, e⟩ := I.base.slot L o ho (I.ok.frf L hL) hL fun z => I.ok.exfs L z hL
      exact ⟨hk, ⟨L, _, hf, hn, e, hd⟩, ih (fun b hb => hs b (by unfold frs; rw [List.filterMap_cons, hf]; exact List.mem_cons_of_mem _ hb)) hr⟩
  exact all X.outer (fun _ hb => hb) I.ok.funs
theorem Inv.stack (I : Inv X pins σ H s) : s.heap.FunFrames X.base X.stack := by
  rcases I.ok.stk with e | ⟨e, hf⟩
  · rw [e]; exact I.funs
  · rw [e]
    obtain ⟨m, hn, _⟩ := I.loc
    refine .cons (by rw [I.ok.kind]; decide) hf hn ?_ I.funs
    exact Heap.get?_none_of_le (Nat.le_trans I.ok.bsz I.ok.above)
theorem Inv.stkSub (I : Inv X pins σ H s) : ∀ b ∈ frs X.stack, b ∈ X.env.locals :: X.fs := fun b hb => by
  rcases I.ok.stk with e | ⟨e, hf⟩
  · rw [e] at hb; exact List.mem_cons_of_mem _ hb
  · rw [e] at hb
    unfold frs at hb
    rw [List.filterMap_cons, hf] at hb
    exact hb
theorem Inv.stkFree (I : Inv X pins σ H s) : ∀ b ∈ frs X.stack, H b = none := fun b hb => by
  rcases List.mem_cons.mp (I.stkSub b hb) with e | hb
  · rw [e]; exact I.free
  · obtain ⟨_, o, ho, _⟩ := I.ok.funs.mem hb
    exact I.base.free b o ho (I.ok.frf b hb) fun z => I.ok.exfs b z hb
theorem Inv.step {g' : Array GenState} {t' : Nat} {d' : Drawn} {ch : List Addr} (I : Inv X pins σ H s)
    (hch : ∀ b ∈ ch, (b ∈ X.ex ∨ X.s₀.heap.objs.size ≤ b) ∧ b ≠ X.env.locals ∧ (∀ x c, X.env.cells.lookup x = some c → c ≠ b) ∧ ∀ p ∈ X.pn ++ pins, p.1 ≠ b)
    (keep : ∀ b o, b ≠ X.env.locals → b ∉ X.fs → b ∉ ch → s.heap.get? b = some o → H b = none → h'.get? b = some o)
    (slot : ∀ b o, b ≠ X.env.locals → b ∈ X.fs → b ∉ ch → s.heap.get? b = some o → H b = none → ∃ sl, h'.get? b = some { o with slots := sl }) (free : ∀ b o, b ∉ ch → s.heap.get? b = some o → H b = none → H' b = none)
    (there : ∀ b o, b ∉ ch → s.heap.get? b = some o → ∃ o', h'.get? b = some o')
    (tups : ∀ b xs, H b = some (.tup xs) → H' b = some (.tup xs)) (frzs : ∀ b o u, H b = some (.frz o u) → H' b = some (.frz o u)) (tbls : ∀ b ps, H b = some (.tbl ps) → ∃ more, H' b = some (.tbl (ps ++ more)))
    (ns : ∀ m, s.heap.Ns X.env.locals m → h'.Ns X.env.locals m) (hok : HOk X.prog X.w H' h') (hg : AllBare g') :
    Inv X pins σ H' { s with heap := h', gens := g', drawn := d', toks := t' } := by
  have neL : ∀ b o, X.s₀.heap.get? b = some o → b ≠ X.env.locals := fun b o e => Nat.ne_of_lt (Nat.lt_of_lt_of_le (Heap.lt_size e) I.ok.above)
  have neC : ∀ b o, X.s₀.heap.get? b = some o → b ∉ X.ex → b ∉ ch := fun b o e hx hb => by
    rcases (hch b hb).1 with z | z
    · exact hx z
    · exact absurd (Nat.lt_of_lt_of_le (Heap.lt_size e) z) (Nat.lt_irrefl _)
  have cellK : ∀ x c, X.env.cells.lookup x = some c → ∀ v, s.heap.IsCell c v → h'.IsCell c v := fun x c e v ⟨o, ho, hd⟩ => by
    have nch : c ∉ ch := fun z => (hch c z).2.2.1 x c e rfl
    by_cases hc : c ∈ X.fs
    · obtain ⟨sl, q⟩ := slot c o (I.cne x c e) hc nch ho (I.freeC x c e)
      exact ⟨_, q, hd⟩
    · exact ⟨o, keep c o (I.cne x c e) hc nch ho (I.freeC x c e), hd⟩
  refine ⟨I.ok, I.os, hg, ⟨fun b o e n hb hx => ?_, fun b o e n hb hx => ?_, fun b o e n hx => ?_, fun b o e hx => ?_, fun b xs e => tups b xs (I.base.tups b xs e), fun b o xs e => frzs b o xs (I.base.frzs b o xs e), fun b ps e => ?_⟩, ?_, fun x c e => ?_, ?_, fun x c e => ?_, fun p hp => ?_, hok, I.len⟩
  · exact keep b o (neL b o e) hb (neC b o e hx) (I.base.keep b o e n hb hx) (I.base.free b o e n hx)
  · obtain ⟨sl, e1⟩ := I.base.slot b o e n hb hx
    obtain ⟨sl', e2⟩ := slot b _ (neL b o e) hb (neC b o e hx) e1 (I.base.free b o e n hx)
    exact ⟨sl', e2⟩
  · obtain ⟨o', e1⟩ := I.base.there b o e hx
    exact free b o' (neC b o e hx) e1 (I.base.free b o e n hx)
  · obtain ⟨o', e1⟩ := I.base.there b o e hx
    exact there b o' (neC b o e hx) e1
  · obtain ⟨m1, e1⟩ := I.base.tbls b ps e
    obtain ⟨m2, e2⟩ := tbls b _ e1
    exact ⟨m1 ++ m2, by rw [e2, Array.append_assoc]⟩
  · obtain ⟨m, hn, hl⟩ := I.loc
    refine ⟨m, ns m hn, fun i x v e1 e2 e3 => ?_⟩
    obtain ⟨u, r, l⟩ := hl i x v e1 e2 e3
    refine ⟨u, r, ?_⟩
    rcases l with l | ⟨k, c, e, z⟩
    · exact .inl l
    · exact .inr ⟨k, c, e, cellK x c e _ z⟩
  · obtain ⟨v, z⟩ := I.cell x c e
    exact ⟨v, cellK x c e v z⟩
  · obtain ⟨m, ⟨o, _, _, ho, _⟩, _⟩ := I.loc
    exact free _ o (fun z => (hch _ z).2.1 rfl) ho I.free
  · obtain ⟨v, o, ho, hd⟩ := I.cell x c e
    exact free c o (fun z => (hch c z).2.2.1 x c e rfl) ho (I.freeC x c e)
  · obtain ⟨e, n, ne, nf, d⟩ := I.pin p hp
    have nch : p.1 ∉ ch := fun z => (hch p.1 z).2.2.2 p hp rfl
    exact ⟨keep p.1 p.2 ne nf nch e n, free p.1 p.2 nch e n, ne, nf, d⟩
theorem Inv.un {t' : Nat} (I : Inv X pins σ H s) (u : Un X.fs [] H H' s.heap h') (hok : HOk X.prog X.w H' h') : Inv X pins σ H' { s with heap := h', toks := t' } := by
  obtain ⟨m, ⟨o, es, ep, ho, r⟩, _⟩ := id I.loc
  obtain ⟨sl, hL⟩ := u.any ho I.free (by simp)
  exact I.step (g' := s.gens) (d' := s.drawn) (ch := []) (fun _ z => nomatch z) (fun b o _ hb _ e n => u.keep b o e n hb (by simp)) (fun b o _ hb _ e n => u.slot b o e n hb (by simp)) (fun b o _ e n => u.free b o e n (by simp)) (fun b o _ e => u.there b o e (by simp)) u.tups u.frzs u.tbls (fun m' hm => by
    obtain ⟨o', es', ep', ho', r'⟩ := hm
    rw [ho] at ho'; cases ho'
    exact ⟨_, es', ep', hL, r'⟩) hok I.bare
theorem Inv.call {g' : Array GenState} {t' : Nat} {d' : Drawn} {ch : List Addr} (I : Inv X pins σ H s) (u : Un (frs X.stack) ch H H' s.heap h') (hok : HOk X.prog X.w H' h') (hg : AllBare g')
    (hch : ∀ b ∈ ch, (b ∈ X.ex ∨ X.s₀.heap.objs.size ≤ b) ∧ b ≠ X.env.locals ∧ (∀ x c, X.env.cells.lookup x = some c → c ≠ b) ∧ ∀ p ∈ X.pn ++ pins, p.1 ≠ b) :
    Inv X pins σ H' { s with heap := h', gens := g', drawn := d', toks := t' } := by
  obtain ⟨m, ⟨o, es, ep, ho, r⟩, _⟩ := id I.loc
  obtain ⟨sl, hL⟩ := u.any ho I.free fun z => (hch _ z).2.1 rfl
  exact I.step (ch := ch) hch (fun b o hL hb hc e n => u.keep b o e n (fun z => (List.mem_cons.mp (I.stkSub b z)).elim hL hb) hc) (fun b o _ _ hc e n => u.any e n hc) (fun b o hc e n => u.free b o e n hc) (fun b o hc e => u.there b o e hc) u.tups u.frzs u.tbls (fun m' hm => by
    obtain ⟨o', es', ep', ho', r'⟩ := hm
    rw [ho] at ho'; cases ho'
    exact ⟨_, es', ep', hL, r'⟩) hok hg
theorem Inv.turned {t' : Nat} {it : Addr} (I : Inv X pins σ H s) (k : ∀ b o, b ≠ it → s.heap.get? b = some o → h'.get? b = some o) (hn : H it = none) (hL : it ≠ X.env.locals)
    (h1 : it ∈ X.ex ∨ X.s₀.heap.objs.size ≤ it) (h2 : ∀ x c, X.env.cells.lookup x = some c → c ≠ it) (h3 : ∀ p ∈ X.pn ++ pins, p.1 ≠ it) : Inv X pins σ H { s with heap := h', toks := t' } := by
  have nit : ∀ b u, H b = some u → b ≠ it := fun b u e z => by rw [z, hn] at e; cases e
  refine I.step (g' := s.gens) (d' := s.drawn) (ch := [it]) (fun b hb => ?_) (fun b o _ _ hc e _ => k b o (fun z => hc (by simp [z])) e) (fun b o _ _ hc e _ => ⟨o.slots, k b o (fun z => hc (by simp [z])) e⟩) (fun _ _ _ _ n => n)
    (fun b o hc e => ⟨o, k b o (fun z => hc (by simp [z])) e⟩) (fun _ _ e => e) (fun _ _ _ e => e) (fun b ps e => ⟨#[], by rw [e]; simp⟩) (fun m hm => ?_) (fun b u e => ?_) I.bare
  · have e : b = it := by simpa using hb
    subst e
    exact ⟨h1, hL, h2, h3⟩
  · obtain ⟨o, es, ep, ho, r⟩ := hm
    exact ⟨o, es, ep, k _ o (Ne.symm hL) ho, r⟩
  · refine (I.hok b u e).stay (fun c v hc q => k c v ?_ q) (fun _ q => q) fun _ _ q => q
    rcases hc with z | z
    · rw [z]; exact nit b u e
    · exact nit c _ z
theorem Inv.tok (I : Inv X pins σ H s) (t : Nat) : Inv X pins σ H { s with toks := t } := I.un (h' := s.heap) (t' := t) Un.refl I.hok
theorem Inv.kept {t' : Nat} (I : Inv X pins σ H s) (k : ∀ b u, s.heap.get? b = some u → h'.get? b = some u) : Inv X pins σ H { s with heap := h', toks := t' } := I.un (Un.kept k) (I.hok.kept k)
theorem Inv.laid {a : Addr} {o : HO} {t' : Nat} (I : Inv X pins σ H s) (k : ∀ b u, s.heap.get? b = some u → h'.get? b = some u) (hp : s.heap.objs.size ≤ a) (new : ObjOk X.prog X.w (upd H a o) h' a o) :
    Inv X pins σ (upd H a o) { s with heap := h', toks := t' } := I.un (Un.laid k hp (I.hok.fresh hp)) (I.hok.laid k hp new)
theorem Inv.write {x e : Addr} {o : HO} {t' : Nat} (I : Inv X pins σ H s) (mu : Mut (H x)) (he : e = x ∨ H e = some (.own x)) (k : ∀ b u, b ≠ e → s.heap.get? b = some u → h'.get? b = some u) (heo : ∃ u, h'.get? e = some u)
    (new : ObjOk X.prog X.w (upd H x o) h' x o) : Inv X pins σ (upd H x o) { s with heap := h', toks := t' } := I.un (Un.write mu he k heo) (I.hok.write mu he k heo new)
theorem Inv.weak {σ' : List (Option V)} (I : Inv X pins σ H s) (hl : σ'.length = σ.length) (w : ∀ (i : Nat) v, σ'[i]? = some (some v) → σ[i]? = some (some v)) : Inv X pins σ' H s :=
  ⟨I.ok, I.os, I.bare, I.base, let ⟨m, hn, hl'⟩ := I.loc; ⟨m, hn, fun i x v e1 e2 e3 => hl' i x v e1 (w i v e2) e3⟩, I.cell, I.free, I.freeC, I.pin, I.hok, hl.trans I.len⟩
theorem Inv.pins_of {pins' : List (Addr × Obj)} (I : Inv X pins σ H s) (h : ∀ p ∈ pins', s.heap.get? p.1 = some p.2 ∧ H p.1 = none ∧ p.1 ≠ X.env.locals ∧ p.1 ∉ X.fs ∧ ∀ v, p.2.data ≠ .cell v) : Inv X pins' σ H s :=
  ⟨I.ok, I.os, I.bare, I.base, I.loc, I.cell, I.free, I.freeC, fun p hp => (List.mem_append.mp hp).elim (fun z => I.pin p (List.mem_append_left _ z)) (h p), I.hok, I.len⟩
theorem nodup_ix {N : List Str} (hN : N.Nodup) {i j : Nat} {x : Str} (a : N[i]? = some x) (b : N[j]? = some x) : i = j := by
  obtain ⟨h1, e1⟩ := List.getElem?_eq_some_iff.mp a
  obtain ⟨h2, e2⟩ := List.getElem?_eq_some_iff.mp b
  exact (List.getElem_inj hN).mp (e1.trans e2.symm)
theorem store_ok2 {M : Model} {A : Around} {E : Value → Shared → Prop} {i : Nat} {x : Str} {v : V} {u : Value} {Q : Unit → Shared → Prop} (I : Inv X pins σ H s) (hN : X.N.Nodup) (hi : X.N[i]? = some x) (hx : Loc X.env.scope x) (r : RelV v u)
    (h : ∀ s', Inv X pins (σ.set i (some v)) H s' → (∃ a, Heap.SameBut a s.heap s'.heap ∧ (a = X.env.locals ∨ X.env.cells.lookup x = some a)) → Q () s') (hf : X.fn x = true ∨ X.env.scope.names.lookup x = some .local := by first | exact .inl rfl | exact .inr rfl | assumption) : wpAny M A (storeName X.env x u) Q E s := by
  obtain ⟨m, hn, hl⟩ := id I.loc
  have hcls : (X.env.scope.kind == .class || (X.env.scope.kind == .module && X.env.locals != X.env.globals)) = false := by rw [I.ok.kind]; rfl
  have hiσ : i < σ.length := by rw [I.len]; exact (List.getElem?_eq_some_iff.mp hi).1
  have cne := I.cne
  have tracked : ∀ {a : Addr} {h' : Heap}, (∃ o, s.heap.get? a = some o ∧ H a = none) → Heap.SameBut a s.heap h' → HOk X.prog X.w H h' := fun {a h'} ha hs b ob e => by
    obtain ⟨_, _, hfree⟩ := ha
    refine (I.hok b ob e).stay (fun c w' hc q => (hs.2 c ?_).trans q) (fun _ q => q) fun _ _ q => q
    rintro rfl
    rcases hc with rfl | hc
    · rw [hfree] at e; cases e
    · rw [hfree] at hc; cases hc
  rcases hx with hk | hk
  · refine wpAny_storeName_local hk hn (fun h' hn' hs => ?_) hcls
    obtain ⟨oL, _, _, hoL, _⟩ := id hn
    refine h _ ⟨I.ok, I.os, I.bare, ⟨fun b o e n hb hx => ?_, fun b o e n hb hx => ?_, I.base.free, fun b o e hx => ?_, I.base.tups, I.base.frzs, I.base.tbls⟩, ⟨_, hn', fun j y v' e1 e2 e3 => ?_⟩, fun y c e => ?_, I.free, I.freeC, fun p hp => ?_, tracked ⟨oL, hoL, I.free⟩ hs, by simpa using I.len⟩ ⟨_, hs, .inl rfl⟩
    · exact (hs.2 b (Nat.ne_of_lt (Nat.lt_of_lt_of_le (Heap.lt_size e) I.ok.above))).trans (I.base.keep b o e n hb hx)
    · obtain ⟨sl, e1⟩ := I.base.slot b o e n hb hx
      exact ⟨sl, (hs.2 b (Nat.ne_of_lt (Nat.lt_of_lt_of_le (Heap.lt_size e) I.ok.above))).trans e1⟩
    · obtain ⟨o', e1⟩ := I.base.there b o e hx
      exact ⟨o', (hs.2 b (Nat.ne_of_lt (Nat.lt_of_lt_of_le (Heap.lt_size e) I.ok.above))).trans e1⟩
    · by_cases hj : j = i
      · subst hj
        rw [hi] at e1; cases e1
        rw [List.getElem?_set_self hiσ] at e2
        cases e2
        exact ⟨u, r, .inl ⟨hk, by simp⟩⟩
      · rw [List.getElem?_set_ne (Ne.symm hj)] at e2
        obtain ⟨u', r', q⟩ := hl j y v' e1 e2 e3
        refine ⟨u', r', ?_⟩
        rcases q with ⟨k, e⟩ | ⟨k, c, e, z⟩
        · refine .inl ⟨k, ?_⟩
          have : y ≠ x := fun e => hj (nodup_ix hN e1 (e ▸ hi))
          simp [this, e]
        · exact .inr ⟨k, c, e, z.sameBut hs (cne y c e)⟩
    · obtain ⟨w', z⟩ := I.cell y c e
      exact ⟨w', z.sameBut hs (cne y c e)⟩
    · obtain ⟨e, n, ne, nf, d⟩ := I.pin p hp
      exact ⟨(hs.2 p.1 ne).trans e, n, ne, nf, d⟩
  · have hfn : X.fn x = true := by
      rcases hf with z | z
      · exact z
      · rw [z] at hk; cases hk
    obtain ⟨c, hc⟩ := I.ok.has x (.inl hk)
    obtain ⟨w', z⟩ := I.cell x c hc
    refine wpAny_storeName_cell I.ok.kind hk hc z (fun h' hc' hs => ?_)
    obtain ⟨oc, hoc, hocd⟩ := id z
    refine h { s with heap := h' } ⟨I.ok, I.os, I.bare, ⟨fun b o e n hb hx => ?_, fun b o e n hb hx => ?_, I.base.free, fun b o e hx => ?_, I.base.tups, I.base.frzs, I.base.tbls⟩, ⟨m, hn.sameBut hs (Ne.symm (cne x c hc)), fun j y v' e1 e2 e3 => ?_⟩, fun y c' e => ?_, I.free, I.freeC, fun p hp => ?_, tracked ⟨oc, hoc, I.freeC x c hc⟩ hs, by simpa using I.len⟩ ⟨c, hs, .inr hc⟩
    · exact (hs.2 b (Nat.ne_of_lt (Nat.lt_of_lt_of_le (Heap.lt_size e) (I.ok.cab x c hfn hc)))).trans (I.base.keep b o e n hb hx)
    · obtain ⟨sl, e1⟩ := I.base.slot b o e n hb hx
      exact ⟨sl, (hs.2 b (Nat.ne_of_lt (Nat.lt_of_lt_of_le (Heap.lt_size e) (I.ok.cab x c hfn hc)))).trans e1⟩
    · obtain ⟨o', e1⟩ := I.base.there b o e hx
      exact ⟨o', (hs.2 b (Nat.ne_of_lt (Nat.lt_of_lt_of_le (Heap.lt_size e) (I.ok.cab x c hfn hc)))).trans e1⟩
    · by_cases hj : j = i
      · subst hj
        rw [hi] at e1; cases e1
        rw [List.getElem?_set_self hiσ] at e2
        cases e2
        exact ⟨u, r, .inr ⟨.inl hk, c, hc, hc'⟩⟩
      · rw [List.getElem?_set_ne (Ne.symm hj)] at e2
        obtain ⟨u', r', q⟩ := hl j y v' e1 e2 e3
        refine ⟨u', r', ?_⟩
        rcases q with q | ⟨k, c', e, z'⟩
        · exact .inl q
        · refine .inr ⟨k, c', e, z'.sameBut hs ?_⟩
          rintro rfl
          exact hj (nodup_ix hN e1 (I.ok.inj _ _ _ e hc ▸ hi))
    · by_cases hcc : c' = c
      · subst hcc; exact ⟨_, hc'⟩
      · obtain ⟨w2, z2⟩ := I.cell y c' e
        exact ⟨w2, z2.sameBut hs hcc⟩
    · obtain ⟨e, n, ne, nf, d⟩ := I.pin p hp
      refine ⟨(hs.2 p.1 ?_).trans e, n, ne, nf, d⟩
      intro q
      rw [q, hoc] at e
      have q' : oc = p.2 := Option.some.inj e
      exact d w' (by rw [← q']; exact hocd)
theorem store_ok {M : Model} {A : Around} {E : Value → Shared → Prop} {i : Nat} {x : Str} {v : V} {u : Value} {Q : Unit → Shared → Prop} (I : Inv X pins σ H s) (hN : X.N.Nodup) (hi : X.N[i]? = some x) (hx : Loc X.env.scope x) (r : RelV v u)
    (h : ∀ s', Inv X pins (σ.set i (some v)) H s' → Q () s') (hf : X.fn x = true ∨ X.env.scope.names.lookup x = some .local := by first | exact .inl rfl | exact .inr rfl | assumption) : wpAny M A (storeName X.env x u) Q E s :=
  store_ok2 I hN hi hx r (fun s' I' _ => h s' I') hf
theorem Inv.call' {s' : Shared} {ch : List Addr} (I : Inv X pins σ H s) (ho : s'.os = s.os) (u : Un (frs X.stack) ch H H' s.heap s'.heap) (hok : HOk X.prog X.w H' s'.heap) (hg : AllBare s'.gens)
    (hch : ∀ b ∈ ch, (b ∈ X.ex ∨ X.s₀.heap.objs.size ≤ b) ∧ b ≠ X.env.locals ∧ (∀ x c, X.env.cells.lookup x = some c → c ≠ b) ∧ ∀ p ∈ X.pn ++ pins, p.1 ≠ b) : Inv X pins σ H' s' := by
  obtain ⟨h', g', d', t', o'⟩ := s'
  have e : o' = s.os := ho
  subst e
  exact I.call (g' := g') (t' := t') (d' := d') u hok hg hch
end
abbrev XK := Value → Option Addr → Hp → Prop
abbrev St := List (Option V)
abbrev VK := V → Hp → Prop
abbrev TE := St → Hp → VK → Prop
abbrev TT := St → Hp → (Bool → Hp → Prop) → Prop
abbrev TA := St → Hp → (List V → Hp → Prop) → Prop
structure Ends where
  nx : St → Hp → Prop
  rt : VK
  bk : St → Hp → Prop := fun _ _ => False
  ct : St → Hp → Prop := fun _ _ => False
abbrev TS := Ends → St → Hp → Prop
def EP (X : Cx) (pins : List (Addr × Obj)) (σ : St) (Q : VK) (u : Value) (s' : Shared) : Prop := ∃ v H', Inv X pins σ H' s' ∧ RelV v u ∧ Q v H'
def TP (X : Cx) (pins : List (Addr × Obj)) (σ : St) (Q : Bool → Hp → Prop) (b : Bool) (s' : Shared) : Prop := ∃ H', Inv X pins σ H' s' ∧ Q b H'
def AP (X : Cx) (pins : List (Addr × Obj)) (σ : St) (Q : List V → Hp → Prop) (us : List Value) (s' : Shared) : Prop := ∃ vs H', Inv X pins σ H' s' ∧ Vals vs us ∧ Q vs H'
def SP (X : Cx) (pins : List (Addr × Obj)) (D : Ends) (f : Flow) (s' : Shared) : Prop :=
  match f with
  | .next => ∃ σ' H', Inv X pins σ' H' s' ∧ D.nx σ' H'
  | .brk => ∃ σ' H', Inv X pins σ' H' s' ∧ D.bk σ' H'
  | .cont => ∃ σ' H', Inv X pins σ' H' s' ∧ D.ct σ' H'
  | .ret u => ∃ v σ' H', Inv X pins σ' H' s' ∧ RelV v u ∧ D.rt v H'
def PE (X : Cx) (e : Expr) (t : TE) : Prop :=
  ∀ (pins : List (Addr × Obj)) (s : Shared) (σ : St) (H : Hp) (Q : VK), Inv X pins σ H s → t σ H Q → wpAny (model X.prog X.w) X.A (eval e X.env) (EP X pins σ Q) X.xe s
def PT (X : Cx) (e : Expr) (t : TT) : Prop :=
  ∀ (pins : List (Addr × Obj)) (s : Shared) (σ : St) (H : Hp) (Q : Bool → Hp → Prop), Inv X pins σ H s → t σ H Q → wpAny (model X.prog X.w) X.A (isTrue e X.env (eval e X.env)) (TP X pins σ Q) X.xe s
def PW (X : Cx) (e : Expr) (t : TT) : Prop :=
  ∀ (whole : Sem Value) (pins : List (Addr × Obj)) (s : Shared) (σ : St) (H : Hp) (Q : Bool → Hp → Prop), Inv X pins σ H s → t σ H Q → wpAny (model X.prog X.w) X.A (isTrue e X.env whole) (TP X pins σ Q) X.xe s
theorem PW.pt {X : Cx} {e : Expr} {t : TT} (h : PW X e t) : PT X e t := h _
def PA (X : Cx) (es : List Expr) (t : TA) : Prop :=
  ∀ (pos : Pos) (pins : List (Addr × Obj)) (s : Shared) (σ : St) (H : Hp) (Q : List V → Hp → Prop), Inv X pins σ H s → t σ H Q → wpAny (model X.prog X.w) X.A (spliced (backTo pos (starEach es X.env))) (AP X pins σ Q) X.xe s
def PS (X : Cx) (st : Stmt) (t : TS) : Prop :=
  ∀ (pins : List (Addr × Obj)) (s : Shared) (σ : St) (H : Hp) (D : Ends), Inv X pins σ H s → t D σ H → wpAny (model X.prog X.w) X.A (exec st X.env) (SP X pins D) X.xe s
def PSs (X : Cx) (st : List Stmt) (t : TS) : Prop :=
  ∀ (pins : List (Addr × Obj)) (s : Shared) (σ : St) (H : Hp) (D : Ends), Inv X pins σ H s → t D σ H → wpAny (model X.prog X.w) X.A (execs st X.env) (SP X pins D) X.xe s
theorem thn {α : Type} {t : Sem α} {Q Q' : α → Shared → Prop} {M : Model} {A : Around} {E : Value → Shared → Prop} {s : Shared} (h : wpAny M A t Q E s) (hQ : ∀ a s, Q a s → Q' a s) : wpAny M A t Q' E s := wpAny_mono h hQ fun _ _ x => x
end L2
namespace L2
open PySem PySem.Spec PyProof.Rows
section
variable {X : Cx}
def tVar (i : Nat) : TE := fun σ H Q => ∃ v, σ[i]? = some (some v) ∧ Q v H
def tC (v : V) : TE := fun _ H Q => Q v H
theorem pe_var {i : Nat} {x : Str} {pos : Pos} (hN : X.N[i]? = some x) (hv : Vis X.env.scope x) (hd : (x == ("__debug__" : Str)) = false := by decide) (hcd : (x == ("__classdict__" : Str)) = false := by decide) : PE X (.Name x pos) (tVar i) := by
  intro pins s σ H Q I h
  obtain ⟨v, e, h⟩ := h
  obtain ⟨m, hn, hl⟩ := I.loc
  obtain ⟨u, r, l⟩ := hl i x v hN e hv
  have fin : EP X pins σ Q u s := ⟨v, H, I, r, h⟩
  rcases l with ⟨hk, hm⟩ | ⟨hk, c, hc, hcell⟩
  · exact wpAny_Name (wpAny_loadName_local I.ok.kind hk hn hm fin) hd
  · rcases hk with hk | hk
    · exact wpAny_Name (wpAny_loadName_cell I.ok.kind hk hc hcell fin) hd
    · exact wpAny_Name (wpAny_loadName_free I.ok.kind hk hc hcell fin hcd) hd
theorem pe_int {i j pos} : PE X (.Constant (.int i) j pos) (tC (.int i)) := fun _ _ _ H _ I h => wpAny_Constant_int ⟨.int i, H, I.tok _, ⟨_, rfl⟩, h⟩
theorem pe_bl {b j pos} : PE X (.Constant (.bool b) j pos) (tC (.bl b)) := fun _ _ _ H _ I h => Constant_bool ⟨.bl b, H, I, rfl, h⟩
theorem pe_non {j pos} : PE X (.Constant .none j pos) (tC .non) := fun _ _ _ H _ I h => Constant_none ⟨.non, H, I, rfl, h⟩
theorem pe_str {x j pos} : PE X (.Constant (.str x) j pos) (tC (.str x)) := fun _ _ _ H _ I h => Calls.Constant_str ⟨.str x, H, I.tok _, ⟨_, rfl⟩, h⟩
def Gl (X : Cx) (x : Str) : Prop := X.env.kindOf x = some .globalImplicit
theorem ld_glob {E : Value → Shared → Prop} {pins : List (Addr × Obj)} {s : Shared} {σ : St} {H : Hp} {x : Str} {u : Value} {pos : Pos} {Q : Value → Shared → Prop} (I : Inv X pins σ H s) (hg : Gl X x) (hm : X.mg x = some u) (h : Q u s)
    (hd : (x == ("__debug__" : Str)) = false := by decide) : wpAny (model X.prog X.w) X.A (eval (.Name x pos) X.env) Q E s :=
  Calls.Name_function_global I.ok.kind hg (Calls.loadGlobal_global (by rw [I.ok.glob]; exact I.mod.glob.keeps I.bk) hm h) hd
theorem ld_blt {E : Value → Shared → Prop} {pins : List (Addr × Obj)} {s : Shared} {σ : St} {H : Hp} {x : Str} {u : Value} {pos : Pos} {Q : Value → Shared → Prop} (I : Inv X pins σ H s) (hg : Gl X x) (hm : X.mg x = none) (hv : bootBuiltins x = some u) (h : Q u s)
    (hn : x ≠ "__name__" := by decide) (hd : (x == ("__debug__" : Str)) = false := by decide) : wpAny (model X.prog X.w) X.A (eval (.Name x pos) X.env) Q E s := by
  obtain ⟨mb, h1, h2⟩ := I.mod.blt
  exact Calls.Name_function_global I.ok.kind hg (Calls.loadGlobal_builtin (by rw [I.ok.glob]; exact I.mod.glob.keeps I.bk) hm (by rw [I.ok.blt]; exact h1.keeps I.bk) ((h2 x hn).trans hv) h) hd
theorem pe_glob {x : Str} {v : V} {u : Value} {pos : Pos} (hg : Gl X x) (hm : X.mg x = some u) (r : RelV v u) (hd : (x == ("__debug__" : Str)) = false := by decide) : PE X (.Name x pos) (tC v) :=
  fun _ _ _ H _ I h => ld_glob I hg hm ⟨v, H, I, r, h⟩ hd
theorem pe_bltn {x : Str} {v : V} {u : Value} {pos : Pos} (hg : Gl X x) (hm : X.mg x = none) (hv : bootBuiltins x = some u) (r : RelV v u) (hn : x ≠ "__name__" := by decide) (hd : (x == ("__debug__" : Str)) = false := by decide) : PE X (.Name x pos) (tC v) :=
  fun _ _ _ H _ I h => ld_blt I hg hm hv ⟨v, H, I, r, h⟩ hn hd
variable {a b : Expr} {ta tb : TE} {pos : Pos}
def PC (X : Cx) (op : CmpOp) (a b : Expr) (t : TE) : Prop :=
  ∀ (pins : List (Addr × Obj)) (s : Shared) (σ : St) (H : Hp) (Q : VK), Inv X pins σ H s → t σ H Q →
    wpAny (model X.prog X.w) X.A (eval a X.env) (fun v s₁ => wpAny (model X.prog X.w) X.A (eval b X.env) (fun u s₂ => wpAny (model X.prog X.w) X.A (compareOp op v u) (EP X pins σ Q) X.xe s₂) X.xe s₁) X.xe s
theorem nobehind (b : Expr) {op : CmpOp} (h : op ≠ .In) (h2 : op ≠ .NotIn) : behindInMarks op b = false := by
  have e1 : (op == CmpOp.In) = false := by cases op <;> first | rfl | exact absurd rfl h
  have e2 : (op == CmpOp.NotIn) = false := by cases op <;> first | rfl | exact absurd rfl h2
  cases b <;> simp [behindInMarks, e1, e2]
def tB (t : TE) : TT := fun σ H Q => t σ H fun x H1 => ∃ c, x = .bl c ∧ Q c H1
theorem pe_cmp {op : CmpOp} {t : TE} (h : PC X op a b t) (h1 : behindInMarks op b = false := by first | exact nobehind _ (by decide) (by decide) | rfl) : PE X (.Compare a [op] [b] pos) t := fun pins s σ H Q I hw => wpAny_Compare1 (h pins s σ H Q I hw) h1
theorem pt_cmp {op : CmpOp} {t : TE} (h : PC X op a b t) (h1 : behindInMarks op b = false := by first | exact nobehind _ (by decide) (by decide) | rfl) : PT X (.Compare a [op] [b] pos) (tB t) := by
  intro pins s σ H Q I hw
  refine wpAny_isTrue_Compare1 (thn (h pins s σ H _ I hw) fun v s1 h1 => thn h1 fun u s2 h2 => thn h2 fun c s3 ⟨x, H1, I1, r1, q1⟩ => ?_) h1
  obtain ⟨d, rfl, q⟩ := q1
  cases r1
  exact wpAny_truthy_bool ⟨H1, I1, q⟩
theorem pt_val {e : Expr} {t : TE} (h : PE X e t) (he : ∀ whole, isTrue e X.env whole = (do let v ← whole; standAt e.pos; holding [v] (truthy v)) := by intro _; rfl) : PT X e (tB t) := by
  intro pins s σ H Q I hw
  refine isTrue_plain (thn (h pins s σ H _ I hw) fun v s1 ⟨x, H1, I1, r1, q1⟩ => ?_) (he _)
  obtain ⟨d, rfl, q⟩ := q1
  cases r1
  exact wpAny_truthy_bool ⟨H1, I1, q⟩
variable {tA tB' : TT} {rest : List Expr}
def tAnd (t u : TT) : TT := fun σ H Q => t σ H fun c H1 => if c = true then u σ H1 Q else Q false H1
def tOr (t u : TT) : TT := fun σ H Q => t σ H fun c H1 => if c = true then Q true H1 else u σ H1 Q
def tNot (t : TT) : TT := fun σ H Q => t σ H fun c H1 => Q (!c) H1
theorem pw_and1 (ha : PT X a tA) : PW X (.BoolOp .And [a] pos) tA := by
  intro wh pins s σ H Q I h
  refine isTrue_and (thn (ha pins s σ H Q I h) fun c s1 e => ?_)
  cases c with
  | true => exact isTrue_and_nil e
  | false => exact e
theorem pw_or1 (ha : PT X a tA) : PW X (.BoolOp .Or [a] pos) tA := by
  intro wh pins s σ H Q I h
  refine isTrue_or (thn (ha pins s σ H Q I h) fun c s1 e => ?_)
  cases c with
  | false => exact isTrue_or_nil e
  | true => exact e
theorem pw_and (ha : PT X a tA) (hb : PW X (.BoolOp .And (b :: rest) pos) tB') : PW X (.BoolOp .And (a :: b :: rest) pos) (tAnd tA tB') := by
  intro wh pins s σ H Q I h
  refine isTrue_and (thn (ha pins s σ H _ I h) fun c s1 ⟨H1, I1, q1⟩ => ?_)
  cases c with
  | true => exact hb wh pins s1 σ H1 Q I1 q1
  | false => exact ⟨H1, I1, q1⟩
theorem pw_or (ha : PT X a tA) (hb : PW X (.BoolOp .Or (b :: rest) pos) tB') : PW X (.BoolOp .Or (a :: b :: rest) pos) (tOr tA tB') := by
  intro wh pins s σ H Q I h
  refine isTrue_or (thn (ha pins s σ H _ I h) fun c s1 ⟨H1, I1, q1⟩ => ?_)
  cases c with
  | true => exact ⟨H1, I1, q1⟩
  | false => exact hb wh pins s1 σ H1 Q I1 q1
theorem pt_not (ha : PT X a tA) : PT X (.UnaryOp .Not a pos) (tNot tA) := by
  intro pins s σ H Q I h
  exact isTrue_not (ha pins s σ H (fun c H1 => Q (!c) H1) I h)
def tAndV (ta tb : TE) : TE := fun σ H Q => ta σ H fun x H1 => ∃ c, x = .bl c ∧ if c = true then tb σ H1 Q else Q (.bl false) H1
def tOrV (ta tb : TE) : TE := fun σ H Q => ta σ H fun x H1 => ∃ c, x = .bl c ∧ if c = true then Q (.bl true) H1 else tb σ H1 Q
theorem pe_one {op} {t : TE} (h : PE X a t) : PE X (.BoolOp op [a] pos) t := fun pins s σ H Q I hw => BoolOp_one (h pins s σ H Q I hw)
theorem pe_and (ha : PE X a ta) (hb : PE X (.BoolOp .And (b :: rest) pos) tb) : PE X (.BoolOp .And (a :: b :: rest) pos) (tAndV ta tb) := by
  intro pins s σ H Q I h
  refine BoolOp_and (thn (ha pins s σ H _ I h) fun v s1 ⟨x, H1, I1, r1, q1⟩ => ?_)
  obtain ⟨c, rfl, q1⟩ := q1
  cases r1
  refine wpAny_truthy_bool ?_
  cases c with
  | true => exact hb pins s1 σ H1 Q I1 q1
  | false => exact ⟨.bl false, H1, I1, rfl, q1⟩
theorem pe_or (ha : PE X a ta) (hb : PE X (.BoolOp .Or (b :: rest) pos) tb) : PE X (.BoolOp .Or (a :: b :: rest) pos) (tOrV ta tb) := by
  intro pins s σ H Q I h
  refine BoolOp_or (thn (ha pins s σ H _ I h) fun v s1 ⟨x, H1, I1, r1, q1⟩ => ?_)
  obtain ⟨c, rfl, q1⟩ := q1
  cases r1
  refine wpAny_truthy_bool ?_
  cases c with
  | false => exact hb pins s1 σ H1 Q I1 q1
  | true => exact ⟨.bl true, H1, I1, rfl, q1⟩
def tIf (t : TT) (ta tb : TE) : TE := fun σ H Q => t σ H fun c H1 => if c = true then ta σ H1 Q else tb σ H1 Q
theorem pe_ifExp {c : Expr} (hc : PT X c tA) (ha : PE X a ta) (hb : PE X b tb) : PE X (.IfExp c a b pos) (tIf tA ta tb) := by
  intro pins s σ H Q I h
  refine wpAny_IfExp (thn (hc pins s σ H _ I h) fun d s1 ⟨H1, I1, q1⟩ => ?_)
  cases d with
  | true => exact ha pins s1 σ H1 Q I1 q1
  | false => exact hb pins s1 σ H1 Q I1 q1
end
end L2
namespace L2
open PySem PySem.Spec PyProof.Rows
def SqL (K : PySem.W.Frag) (H : Hp) (a : Addr) (xs : List V) : Prop :=
  Rd H a (.lst xs) ∨
    ∃ (o : Obj) (its : Array Value) (n : Nat), K.lookup a = some o ∧ o.cls = .type "list" ∧ o.dict = none ∧ o.data = .seq its n ∧ its.size ≤ sizeLine ∧ Vals xs its.toList
def SqT (K : PySem.W.Frag) (H : Hp) (a : Addr) (xs : List V) : Prop :=
  Rd H a (.tup xs) ∨
    ∃ (o : Obj) (its : Array Value) (n : Nat), K.lookup a = some o ∧ o.cls = .type "tuple" ∧ o.data = .seq its n ∧ its.size ≤ sizeLine ∧ Vals xs its.toList
def absV : Value → Option V
  | .none => some .non
  | .bool b => some (.bl b)
  | .int i _ => some (.int i)
  | .str x _ => some (.str x)
  | .bytes b _ => some (.byt b)
  | .float b _ => some (.flt b)
  | .ref a => some (.ref a)
  | .type n => some (.ty n)
  | _ => none
theorem RelV.abs {x : V} {u : Value} (r : RelV x u) : absV u = some x := by
  cases x with
  | non => cases r; rfl
  | bl _ => cases r; rfl
  | int _ => obtain ⟨t, rfl⟩ := r; rfl
  | str _ => obtain ⟨t, rfl⟩ := r; rfl
  | byt _ => obtain ⟨t, rfl⟩ := r; rfl
  | flt _ => obtain ⟨t, rfl⟩ := r; rfl
  | ref _ => cases r; rfl
  | ty _ => cases r; rfl
theorem RelV.inj {x y : V} {u : Value} (r : RelV x u) (q : RelV y u) : x = y := Option.some.inj (r.abs.symm.trans q.abs)
theorem Vals.inj : ∀ {xs ys : List V} {us : List Value}, Vals xs us → Vals ys us → xs = ys
  | _, _, _, .nil, .nil => rfl
  | _, _, _, .cons r t, .cons r' t' => by rw [r.inj r', Vals.inj t t']
section
variable {X : Cx} {pins : List (Addr × Obj)} {σ : St} {H : Hp} {s : Shared} {a : Addr} {xs ys : List V}
theorem SqL.of {K : PySem.W.Frag} (h : H a = some (.lst xs)) : SqL K H a xs := .inl (.inl h)
theorem SqT.of {K : PySem.W.Frag} (h : H a = some (.tup xs)) : SqT K H a xs := .inl (.inl h)
theorem Inv.list (I : Inv X pins σ H s) (h : SqL X.K H a xs) : ∃ its : List Value, Vals xs its ∧ PlainL s.heap a its.toArray ∧ xs.length ≤ sizeLine := by
  rcases h with h | ⟨o, its, n, hk, hc, hd, hs, hz, r⟩
  · obtain ⟨z, its, n, r, e⟩ := h.ok I.hok
    exact ⟨its, r, ⟨_, n, e, rfl, rfl, rfl⟩, z⟩
  · refine ⟨its.toList, r, ⟨o, n, I.kIn a o hk, hc, hd, by simpa using hs⟩, ?_⟩
    have e := r.length
    simp only [Array.length_toList] at e
    omega
theorem Inv.tuple (I : Inv X pins σ H s) (h : SqT X.K H a xs) : ∃ its : List Value, Vals xs its ∧ IsTup s.heap a its.toArray ∧ xs.length ≤ sizeLine := by
  rcases h with h | ⟨o, its, n, hk, hc, hs, hz, r⟩
  · obtain ⟨z, its, r, p⟩ := h.ok I.hok
    exact ⟨its, r, p, z⟩
  · refine ⟨its.toList, r, ⟨o, I.kIn a o hk, hc, n, by simpa using hs⟩, ?_⟩
    have e := r.length
    simp only [Array.length_toList] at e
    omega
theorem Inv.list_inj (I : Inv X pins σ H s) (h : SqL X.K H a xs) (h' : SqL X.K H a ys) : xs = ys := by
  obtain ⟨its, r, ⟨o, n, e, _, _, d⟩, _⟩ := I.list h
  obtain ⟨its', r', ⟨o', n', e', _, _, d'⟩, _⟩ := I.list h'
  rw [e] at e'; cases e'
  rw [d] at d'
  injection d' with d1 _
  have : its = its' := by simpa using congrArg Array.toList d1
  subst this
  exact r.inj r'
theorem Inv.tuple_inj (I : Inv X pins σ H s) (h : SqT X.K H a xs) (h' : SqT X.K H a ys) : xs = ys := by
  obtain ⟨its, r, ⟨o, e, _, n, d⟩, _⟩ := I.tuple h
  obtain ⟨its', r', ⟨o', e', _, n', d'⟩, _⟩ := I.tuple h'
  rw [e] at e'; cases e'
  rw [d] at d'
  injection d' with d1 _
  have : its = its' := by simpa using congrArg Array.toList d1
  subst this
  exact r.inj r'
end
abbrev Cx.wish (X : Cx) (E : Value → Shared → Prop) : Cx := { X with xe := E }
abbrev Cx.nox (X : Cx) : Cx := X.wish fun _ _ => False
theorem Cx.Ok.wish {X : Cx} (ok : X.Ok) (E : Value → Shared → Prop) : (X.wish E).Ok :=
  ⟨ok.mod, ok.kind, ok.glob, ok.blt, ok.above, ok.inj, ok.has, ok.cab, ok.hd, ok.frames, ok.stk, ok.exf, ok.bs, ok.bsz, ok.noex, ok.exfs, ok.funs, ok.frf⟩
theorem Cx.Ok.unwish {X : Cx} {E : Value → Shared → Prop} (ok : (X.wish E).Ok) : X.Ok :=
  ⟨ok.mod, ok.kind, ok.glob, ok.blt, ok.above, ok.inj, ok.has, ok.cab, ok.hd, ok.frames, ok.stk, ok.exf, ok.bs, ok.bsz, ok.noex, ok.exfs, ok.funs, ok.frf⟩
section
variable {X : Cx} {pins : List (Addr × Obj)} {σ : St} {H : Hp} {s : Shared} {E : Value → Shared → Prop}
theorem Inv.wish (I : Inv X pins σ H s) (E : Value → Shared → Prop) : Inv (X.wish E) pins σ H s := ⟨I.ok.wish E, I.os, I.bare, I.base, I.loc, I.cell, I.free, I.freeC, I.pin, I.hok, I.len⟩
theorem Inv.unwish (I : Inv (X.wish E) pins σ H s) : Inv X pins σ H s := ⟨I.ok.unwish, I.os, I.bare, I.base, I.loc, I.cell, I.free, I.freeC, I.pin, I.hok, I.len⟩
theorem SP.unwish {D : Ends} {f : Flow} {s' : Shared} (h : SP (X.wish E) pins D f s') : SP X pins D f s' := by
  cases f with
  | next => obtain ⟨σ', H', I, q⟩ := h; exact ⟨σ', H', I.unwish, q⟩
  | brk => obtain ⟨σ', H', I, q⟩ := h; exact ⟨σ', H', I.unwish, q⟩
  | cont => obtain ⟨σ', H', I, q⟩ := h; exact ⟨σ', H', I.unwish, q⟩
  | ret u => obtain ⟨v, σ', H', I, r, q⟩ := h; exact ⟨v, σ', H', I.unwish, r, q⟩
theorem PE.nox {e : Expr} {t : TE} (h : PE X.nox e t) : PE X e t := fun pins s σ H Q I hw =>
  wpAny_mono (h pins s σ H Q (I.wish _) hw) (fun _ _ ⟨v, H', I', r, q⟩ => ⟨v, H', I'.unwish, r, q⟩) fun _ _ z => False.elim z
theorem PT.nox {e : Expr} {t : TT} (h : PT X.nox e t) : PT X e t := fun pins s σ H Q I hw =>
  wpAny_mono (h pins s σ H Q (I.wish _) hw) (fun _ _ ⟨H', I', q⟩ => ⟨H', I'.unwish, q⟩) fun _ _ z => False.elim z
theorem PSs.nox {st : List Stmt} {t : TS} (h : PSs X.nox st t) : PSs X st t := fun pins s σ H D I hw =>
  wpAny_mono (h pins s σ H D (I.wish _) hw) (fun _ _ q => q.unwish) fun _ _ z => False.elim z
end
section
variable {X : Cx} {st : Stmt} {rest : List Stmt} {t u : TS} {e : Expr} {te : TE} {pos : Pos}
def tNext : TS := fun D σ H => D.nx σ H
def tSeq (t u : TS) : TS := fun D σ H => t { D with nx := u D } σ H
theorem pss_nil : PSs X [] tNext := fun _ _ σ H _ I h => wpAny_execs_nil ⟨σ, H, I, h⟩
theorem pss_cons (h1 : PS X st t) (h2 : PSs X rest u) : PSs X (st :: rest) (tSeq t u) := by
  intro pins s σ H D I h
  refine wpAny_execs_cons (thn (h1 pins s σ H { D with nx := u D } I h) fun f s1 q => ?_)
  cases f with
  | next =>
    obtain ⟨σ', H', I', q⟩ := q
    exact h2 pins s1 σ' H' D I' q
  | ret v => exact q
  | brk => exact q
  | cont => exact q
theorem pss_one (h1 : PS X st t) : PSs X [st] t := by
  intro pins s σ H D I h
  refine wpAny_execs_cons (thn (h1 pins s σ H D I h) fun f s1 q => ?_)
  cases f with
  | next => exact wpAny_execs_nil q
  | ret v => exact q
  | brk => exact q
  | cont => exact q
theorem Inv.quiet {pins : List (Addr × Obj)} {σ : St} {H : Hp} {s : Shared} (I : Inv X pins σ H s) : interactive X.env = false := by simp [interactive, I.ok.kind]
def tDrop (te : TE) : TS := fun D σ H => te σ H fun _ H1 => D.nx σ H1
theorem ps_expr (he : PE X e te) (hs : swapsWith e none pos.line X.env = pure false := by rfl) : PS X (.Expr e pos) (tDrop te) := by
  intro pins s σ H D I h
  exact wpAny_Expr_any (thn (he pins s σ H _ I h) fun v s1 ⟨x, H1, I1, r1, q1⟩ => ⟨σ, H1, I1, q1⟩) I.quiet hs
def tRet (te : TE) : TS := fun D σ H => te σ H D.rt
theorem ps_ret (he : PE X e te) : PS X (.Return (some e) pos) (tRet te) := by
  intro pins s σ H D I h
  exact wpAny_Return_some (thn (he pins s σ H _ I h) fun v s1 ⟨x, H1, I1, r1, q1⟩ => ⟨x, σ, H1, I1, r1, q1⟩)
def tIfS (c : TT) (t u : TS) : TS := fun D σ H => c σ H fun b H1 => if b = true then t D σ H1 else u D σ H1
theorem ps_if {c : Expr} {a b : List Stmt} {tc : TT} (hc : PT X c tc) (ha : PSs X a t) (hb : PSs X b u) : PS X (.If c a b pos) (tIfS tc t u) := by
  intro pins s σ H D I h
  refine wpAny_If (thn (hc pins s σ H _ I h) fun d s1 ⟨H1, I1, q1⟩ => ?_)
  cases d with
  | true => exact ha pins s1 σ H1 D I1 q1
  | false => exact hb pins s1 σ H1 D I1 q1
end
abbrev TG := V → St → Hp → (St → Hp → Prop) → Prop
abbrev TGs := List V → St → Hp → (St → Hp → Prop) → Prop
def PG (X : Cx) (target : Expr) (t : TG) : Prop :=
  ∀ (pins : List (Addr × Obj)) (s : Shared) (σ : St) (H : Hp) (v : V) (u : Value) (Q : St → Hp → Prop), Inv X pins σ H s → RelV v u → t v σ H Q →
    wpAny (model X.prog X.w) X.A (assign target X.env u) (fun _ s' => ∃ σ' H', Inv X pins σ' H' s' ∧ Q σ' H') X.xe s
def PGs (X : Cx) (ts : List Expr) (t : TGs) : Prop :=
  ∀ (pins : List (Addr × Obj)) (s : Shared) (σ : St) (H : Hp) (vs : List V) (us : List Value) (Q : St → Hp → Prop), Inv X pins σ H s → Vals vs us → t vs σ H Q →
    wpAny (model X.prog X.w) X.A (assignInOrder ((assignEach ts X.env).map (·.2)) us) (fun _ s' => ∃ σ' H', Inv X pins σ' H' s' ∧ Q σ' H') X.xe s
abbrev TSet := V → V → V → Hp → (Hp → Prop) → Prop
def PSet (X : Cx) (t : TSet) : Prop :=
  ∀ (pins : List (Addr × Obj)) (s : Shared) (σ : St) (H : Hp) (o i v : V) (ov iv u : Value) (Q : Hp → Prop), Inv X pins σ H s → RelV o ov → RelV i iv → RelV v u → t o i v H Q →
    wpAny (model X.prog X.w) X.A (setItem ov iv u) (fun _ s' => ∃ H', Inv X pins σ H' s' ∧ Q H') X.xe s
section
variable {X : Cx} {pos : Pos}
def gName (i : Nat) : TG := fun v σ H Q => Q (σ.set i (some v)) H
theorem pg_name {i : Nat} {x : Str} (hN : X.N.Nodup) (hi : X.N[i]? = some x) (hx : Loc X.env.scope x) (hf : X.fn x = true ∨ X.env.scope.names.lookup x = some .local := by first | exact .inl rfl | exact .inr rfl | assumption) : PG X (.Name x pos) (gName i) := by
  intro pins s σ H v u Q I r h
  exact wpAny_assign_Name (store_ok I hN hi hx r (fun s' I' => ⟨_, H, I', h⟩) hf)
def gNil : TGs := fun vs σ H Q => vs = [] ∧ Q σ H
def gCons (t : TG) (u : TGs) : TGs := fun vs σ H Q => ∃ v r, vs = v :: r ∧ t v σ H fun σ' H' => u r σ' H' Q
theorem pgs_nil : PGs X [] gNil := by
  intro pins s σ H vs us Q I r h
  obtain ⟨e, h⟩ := h
  subst e
  cases r
  exact assignInOrder_nil ⟨σ, H, I, h⟩
theorem pgs_cons {e : Expr} {es : List Expr} {t : TG} {u : TGs} (h1 : PG X e t) (h2 : PGs X es u)
    (hs : (assignEach (e :: es) X.env).map (·.2) = assign e X.env :: (assignEach es X.env).map (·.2) := by rfl) : PGs X (e :: es) (gCons t u) := by
  intro pins s σ H vs us Q I r h
  obtain ⟨v, vr, e1, h⟩ := h
  subst e1
  cases r with
  | cons r rr =>
    rw [hs]
    refine assignInOrder_cons (thn (h1 pins s σ H _ _ _ I r h) fun _ s1 ⟨σ1, H1, I1, q1⟩ => ?_)
    exact h2 pins s1 σ1 H1 _ _ Q I1 rr q1
def gTup (K : PySem.W.Frag) (n : Nat) (t : TGs) : TG := fun v σ H Q => ∃ a xs, v = .ref a ∧ SqT K H a xs ∧ xs.length = n ∧ t xs σ H Q
theorem pg_tup {es : List Expr} {k : Nat} {t : TGs} {n : Nat} (hc : X.calm = true) (h : PGs X es t)
    (hn : (assignEach es X.env).length = n := by rfl) (hst : (assignEach es X.env).findIdx? (·.1) = none := by rfl) : PG X (.Tuple es k pos) (gTup X.K n t) := by
  intro pins s σ H v u Q I r hw
  obtain ⟨a, xs, e1, hq, hl, hw⟩ := hw
  subst e1
  cases r
  obtain ⟨its, rv, ht, hz⟩ := I.tuple hq
  refine assignH (I.hb hc) (show s.heap.IsTuple a its.toArray from ht) (by simp [hn, ← hl, rv.length]) hst fun h' hx => ?_
  have I1 : Inv X pins σ H { s with heap := h' } := I.kept (t' := s.toks) fun b o e => hx b o (Nat.ne_of_lt (Heap.lt_size e)) e
  exact h pins _ σ H xs _ Q I1 (by simpa using rv) hw
def gSub (to ti : TE) (t : TSet) : TG := fun v σ H Q => to σ H fun o H1 => ti σ H1 fun i H2 => t o i v H2 fun H3 => Q σ H3
theorem pg_sub {o i : Expr} {to ti : TE} {t : TSet} (ho : PE X o to) (hi : PE X i ti) (hs : PSet X t)
    (ha : ∀ v, assign (.Subscript o i pos) X.env v = (do
      let ov ← holding [v] (eval o X.env)
      let iv ← holding [v, ov] (eval i X.env)
      standAt pos
      holding [v, ov, iv] (setItem ov iv v)
      release [v, ov, iv] []) := by intro _; rfl) : PG X (.Subscript o i pos) (gSub to ti t) := by
  intro pins s σ H v u Q I r h
  rw [ha]
  refine wpAny_bind (wpAny_holding (thn (ho pins s σ H _ I h) fun ov s1 ⟨x, H1, I1, r1, q1⟩ => ?_))
  refine wpAny_bind (wpAny_holding (thn (hi pins s1 σ H1 _ I1 q1) fun iv s2 ⟨y, H2, I2, r2, q2⟩ => ?_))
  refine wpAny_bind (wpAny_standAt (wpAny_bind (wpAny_holding (thn (hs pins s2 σ H2 x y v ov iv u _ I2 r1 r2 r q2) fun _ s3 ⟨H3, I3, q3⟩ => ?_))))
  exact wpAny_release ⟨σ, H3, I3, q3⟩
def tAsg (te : TE) (g : TG) : TS := fun D σ H => te σ H fun x H1 => g x σ H1 D.nx
theorem ps_asg {tg e : Expr} {te : TE} {g : TG} (he : PE X e te) (hg : PG X tg g) (hs : swapsWithSole [tg] e pos.line X.env = pure false := by rfl) (hw : swappedStores [tg] e X.env = pure none := by rfl)
    (h1 : (assignEach [tg] X.env).map (·.2) = [assign tg X.env] := by rfl) : PS X (.Assign [tg] e pos) (tAsg te g) := by
  intro pins s σ H D I h
  refine wpAny_Assign_stores (thn (he pins s σ H _ I h) fun v s1 ⟨x, H1, I1, r1, q1⟩ => ?_) hs hw
  rw [h1]
  exact thn (hg pins s1 σ H1 x v _ I1 r1 q1) fun _ s2 q => q
theorem ps_set {i : Nat} {x : Str} {e : Expr} {te : TE} {pos' : Pos} (hN : X.N.Nodup) (hi : X.N[i]? = some x) (hx : Loc X.env.scope x) (he : PE X e te) (hs : swapsWith e (some (.Name x pos')) pos.line X.env = pure false := by rfl) (hf : X.fn x = true ∨ X.env.scope.names.lookup x = some .local := by first | exact .inl rfl | exact .inr rfl | assumption) :
    PS X (.Assign [.Name x pos'] e pos) (tAsg te (gName i)) := by
  intro pins s σ H D I h
  refine wpAny_Assign_Name (thn (he pins s σ H _ I h) fun v s1 ⟨y, H1, I1, r1, q1⟩ => ?_) hs
  exact store_ok I1 hN hi hx r1 (fun s2 I2 => ⟨_, H1, I2, q1⟩) hf
end
section
variable {X : Cx} {pos : Pos}
def tWhile (c : TT) (tb : TS) : TS := fun D σ H => ∃ W : Nat → St → Hp → Prop, (∃ m, W m σ H) ∧ ∀ m σ H, W m σ H →
  c σ H fun b H1 => if b = true then ∃ N : St → Hp → Prop, (∀ σ' H', N σ' H' → ∃ m', m' < m ∧ W m' σ' H') ∧ tb { D with nx := N, ct := N, bk := D.nx } σ H1 else D.nx σ H1
theorem ps_while {c : Expr} {body : List Stmt} {tc : TT} {tb : TS} (hp : PassesOwn (model X.prog X.w) X.A X.env X.xe) (hc : PT X c tc) (hb : PSs X body tb) : PS X (.While c body [] pos) (tWhile tc tb) := by
  intro pins s σ H D I h
  obtain ⟨W, ⟨m0, w0⟩, turn⟩ := h
  refine wpAny_While (codeAny_whileLoop (fun n s' => ∃ σ' H', Inv X pins σ' H' s' ∧ W n σ' H') ?_ m0 ⟨σ, H, I, w0⟩)
  rintro n s1 ⟨σ1, H1, I1, w1⟩
  refine wpAny_passesOwn hp (thn (hc pins s1 σ1 H1 _ I1 (turn n σ1 H1 w1)) fun b s2 ⟨H2, I2, q2⟩ => ?_)
  cases b with
  | true =>
    obtain ⟨N, hN, q2⟩ := q2
    rw [if_pos rfl]
    refine wpAny_passesOwn hp (thn (hb pins s2 σ1 H2 _ I2 q2) fun f s3 q3 => ?_)
    cases f with
    | next =>
      obtain ⟨σ3, H3, I3, n3⟩ := q3
      obtain ⟨m', hm, w3⟩ := hN σ3 H3 n3
      exact ⟨m', hm, σ3, H3, I3, w3⟩
    | cont =>
      obtain ⟨σ3, H3, I3, n3⟩ := q3
      obtain ⟨m', hm, w3⟩ := hN σ3 H3 n3
      exact ⟨m', hm, σ3, H3, I3, w3⟩
    | brk => exact q3
    | ret v => exact q3
  | false =>
    rw [if_neg Bool.false_ne_true]
    exact wpAny_execs_nil ⟨σ1, H2, I2, q2⟩
end
structure It where
  go : Nat → Hp → Prop
  yld : Nat → Hp → V → Hp → Prop
  stop : Nat → Hp → Prop
def FpOk (X : Cx) (pins : List (Addr × Obj)) (H : Hp) (b : Addr) : Prop :=
  H b = none ∧ b ≠ X.env.locals ∧ b ∉ X.fs ∧ (b ∈ X.ex ∨ X.s₀.heap.objs.size ≤ b) ∧ (∀ x c, X.env.cells.lookup x = some c → c ≠ b) ∧ ∀ p ∈ X.pn ++ pins, p.1 ≠ b
theorem Inv.fpOk {X : Cx} {pins : List (Addr × Obj)} {σ : St} {H H' : Hp} {s : Shared} {b : Addr} (I : Inv X pins σ H s) (hb : s.heap.objs.size ≤ b) (hn : H' b = none) : FpOk X pins H' b := by
  refine ⟨hn, Nat.ne_of_gt (Nat.lt_of_lt_of_le I.lt hb), I.nofs hb, .inr (Nat.le_trans I.sz hb), fun x c e z => ?_, fun p hp z => ?_⟩
  · obtain ⟨v, q⟩ := I.cell x c e
    exact absurd (Nat.lt_of_lt_of_le q.lt (by rw [z]; exact hb)) (Nat.lt_irrefl _)
  · exact absurd (Nat.lt_of_lt_of_le (Heap.lt_size (I.pin p hp).1) (by rw [z]; exact hb)) (Nat.lt_irrefl _)
structure Turn (P : Program) (w : World) (K : PySem.W.Frag) (tg : Expr) (J : It) (fp : List Addr) (it : Addr) (tn : Nat → Heap → Prop) : Prop where
  mem : it ∈ fp
  obj : ∀ i h, tn i h → ∀ b ∈ fp, ∃ o, h.get? b = some o ∧ ∀ v, o.data ≠ .cell v
  keep : ∀ i h h', tn i h → (∀ b ∈ fp, ∀ o, h.get? b = some o → h'.get? b = some o) → tn i h'
  item : ∀ (X : Cx), X.prog = P → X.w = w → X.K = K → X.calm = true → ∀ (i : Nat) (pins : List (Addr × Obj)) (s : Shared) (σ : St) (H : Hp) (E : Value → Shared → Prop), Inv X pins σ H s → (∀ b ∈ fp, FpOk X pins H b) → tn i s.heap → J.go i H →
    wpAny (model P w) X.A (pyNext (.ref it)) (fun r s1 => ∃ u, r = some u ∧
      wpAny (model P w) X.A (letOwnedTupleGo tg (.ref it) u) (fun _ s2 => ∃ x H', Inv X pins σ H' s2 ∧ RelV x u ∧ J.yld i H x H' ∧ tn (i + 1) s2.heap ∧ ∀ b ∈ fp, H' b = none) E s1) E s
  done : ∀ (X : Cx), X.prog = P → X.w = w → X.K = K → X.calm = true → ∀ (i : Nat) (pins : List (Addr × Obj)) (s : Shared) (σ : St) (H : Hp) (E : Value → Shared → Prop), Inv X pins σ H s → (∀ b ∈ fp, FpOk X pins H b) → tn i s.heap → J.stop i H →
    wpAny (model P w) X.A (pyNext (.ref it)) (fun r s1 => r = none ∧ Inv X pins σ H s1) E s
  self : ∀ (A : Around) (i : Nat) (s : Shared) (Q : Value → Shared → Prop) (E : Value → Shared → Prop), tn i s.heap → Q (.ref it) s → wpAny (model P w) A (pyIter (.ref it)) Q E s
abbrev TI := St → Hp → (It → Hp → Prop) → Prop
def PIE (X : Cx) (pins : List (Addr × Obj)) (σ : St) (tg : Expr) (R : It → Hp → Prop) (itv : Value) (s2 : Shared) : Prop :=
  ∃ (it : Addr) (fp : List Addr) (tn : Nat → Heap → Prop) (J : It) (H' : Hp), itv = .ref it ∧ Inv X pins σ H' s2 ∧ Turn X.prog X.w X.K tg J fp it tn ∧ tn 0 s2.heap ∧ (∀ b ∈ fp, FpOk X pins H' b) ∧ R J H'
def PI (X : Cx) (tg iter : Expr) (wi : TI) : Prop :=
  ∀ (pins : List (Addr × Obj)) (s : Shared) (σ : St) (H : Hp) (R : It → Hp → Prop), Inv X pins σ H s → wi σ H R →
    wpAny (model X.prog X.w) X.A (eval iter X.env) (fun v s1 => wpAny (model X.prog X.w) X.A (pyIter v) (PIE X pins σ tg R) X.xe s1) X.xe s
theorem go_of {M : Model} {A : Around} {E : Value → Shared → Prop} {s : Shared} {tg : Expr} {it : Addr} {u : Value} {o : Obj} {n : String} {vs : Array Value} {Q : Unit → Shared → Prop} (ho : s.heap.get? it = some o) (hc : o.cls = .type n) (hd : o.data = .fields vs)
    (hn : ["enumerate", "zip", "dict_itemiterator", "dict_reverseitemiterator", "odict_iterator", "itertools.zip_longest", "itertools.pairwise"].contains n = false) (hQ : Q () s) : wpAny M A (letOwnedTupleGo tg (.ref it) u) Q E s := by
  unfold letOwnedTupleGo
  cases tg <;> first
    | exact wpAny_pure hQ
    | (cases u <;> first
        | exact wpAny_pure hQ
        | (refine wpAny_bind (wpAny_load ho ?_)
           rw [hc, hd]
           show wpAny M A (if (["enumerate", "zip", "dict_itemiterator", "dict_reverseitemiterator", "odict_iterator", "itertools.zip_longest", "itertools.pairwise"].contains n && vs[0]? == some (rawInt _)) = true then _ else _) Q E s
           rw [if_neg (by intro h; rw [hn, Bool.false_and] at h; cases h)]
           exact wpAny_pure hQ))
def Itl (K : PySem.W.Frag) (a : Addr) : It :=
  ⟨fun i H => ∃ xs x, SqL K H a xs ∧ xs[i]? = some x, fun i H x H' => H' = H ∧ ∀ xs, SqL K H a xs → xs[i]? = some x, fun i H => ∃ xs, SqL K H a xs ∧ xs.length ≤ i⟩
def Itt (K : PySem.W.Frag) (a : Addr) : It :=
  ⟨fun i H => ∃ xs x, SqT K H a xs ∧ xs[i]? = some x, fun i H x H' => H' = H ∧ ∀ xs, SqT K H a xs → xs[i]? = some x, fun i H => ∃ xs, SqT K H a xs ∧ xs.length ≤ i⟩
def Itr (lo : Int) (n : Nat) : It := ⟨fun i _ => i < n, fun i H x H' => H' = H ∧ x = .int (lo + i), fun i _ => n ≤ i⟩
theorem turn_list {P : Program} {w : World} {K : PySem.W.Frag} {tg : Expr} (a it : Addr) : Turn P w K tg (Itl K a) [it] it (fun i h => h.IsListIter it a i) where
  mem := by simp
  obj := fun i h st b hb => by
    have e : b = it := by simpa using hb
    subst e
    obtain ⟨o, e, c, d⟩ := st
    exact ⟨o, e, fun v z => by rw [d] at z; cases z⟩
  keep := fun i h h' st k => st.at fun o e => k it (by simp) o e
  item := by
    intro X hP hw hK hc i pins s σ H E I hf st hg
    subst hP hw hK
    obtain ⟨xs, x, hq, hx⟩ := hg
    obtain ⟨its, rv, p, hz⟩ := I.list hq
    obtain ⟨u, hu, ru⟩ := rv.get hx
    obtain ⟨f0, f1, f2, f3, f4, f5⟩ := hf it (by simp)
    refine wpAny_pyNext_list_item st p.isList (x := u) (by simpa using hu) fun h' st' sb => ?_
    have I1 : Inv X pins σ H { s with heap := h' } := I.turned (t' := s.toks) (fun b o hb e => (sb.2 b hb).trans e) f0 f1 f3 f4 f5
    obtain ⟨o, e, c, d⟩ := id st'
    exact ⟨u, rfl, go_of (s := { s with heap := h' }) e c d (by decide) ⟨x, H, I1, ru, ⟨rfl, fun ys hy => by rw [I.list_inj hy hq]; exact hx⟩, st', fun b hb => (hf b hb).1⟩⟩
  done := by
    intro X hP hw hK hc i pins s σ H E I hf st hg
    subst hP hw hK
    obtain ⟨xs, hq, hx⟩ := hg
    obtain ⟨its, rv, p, hz⟩ := I.list hq
    obtain ⟨f0, f1, f2, f3, f4, f5⟩ := hf it (by simp)
    have hl := rv.length
    exact next_list_end (I.hb hc) (I.hna hc f3 f5) st p.isList (by simp; omega) fun h' eb => ⟨rfl, I.turned (t' := s.toks) (fun b o hb e => eb b o hb e) f0 f1 f3 f4 f5⟩
  self := fun _ _ _ _ _ st h => wpAny_pyIter_listiter st h
theorem turn_tuple {P : Program} {w : World} {K : PySem.W.Frag} {tg : Expr} (a it : Addr) : Turn P w K tg (Itt K a) [it] it (fun i h => h.IsTupleIter it a i) where
  mem := by simp
  obj := fun i h st b hb => by
    have e : b = it := by simpa using hb
    subst e
    obtain ⟨o, e, c, d⟩ := st
    exact ⟨o, e, fun v z => by rw [d] at z; cases z⟩
  keep := fun i h h' st k => st.at fun o e => k it (by simp) o e
  item := by
    intro X hP hw hK hc i pins s σ H E I hf st hg
    subst hP hw hK
    obtain ⟨xs, x, hq, hx⟩ := hg
    obtain ⟨its, rv, p, hz⟩ := I.tuple hq
    obtain ⟨u, hu, ru⟩ := rv.get hx
    obtain ⟨f0, f1, f2, f3, f4, f5⟩ := hf it (by simp)
    refine wpAny_pyNext_tuple_item st (show s.heap.IsTuple a its.toArray from p) (x := u) (by simpa using hu) fun h' st' sb => ?_
    have I1 : Inv X pins σ H { s with heap := h' } := I.turned (t' := s.toks) (fun b o hb e => (sb.2 b hb).trans e) f0 f1 f3 f4 f5
    obtain ⟨o, e, c, d⟩ := id st'
    exact ⟨u, rfl, go_of (s := { s with heap := h' }) e c d (by decide) ⟨x, H, I1, ru, ⟨rfl, fun ys hy => by rw [I.tuple_inj hy hq]; exact hx⟩, st', fun b hb => (hf b hb).1⟩⟩
  done := by
    intro X hP hw hK hc i pins s σ H E I hf st hg
    subst hP hw hK
    obtain ⟨xs, hq, hx⟩ := hg
    obtain ⟨its, rv, p, hz⟩ := I.tuple hq
    obtain ⟨f0, f1, f2, f3, f4, f5⟩ := hf it (by simp)
    have hl := rv.length
    exact next_tuple_end (I.hb hc) (I.hna hc f3 f5) st (show s.heap.IsTuple a its.toArray from p) (by simp; omega) fun h' eb => ⟨rfl, I.turned (t' := s.toks) (fun b o hb e => eb b o hb e) f0 f1 f3 f4 f5⟩
  self := fun _ _ _ _ _ st h => wpAny_pyIter_tupleiter st h
theorem turn_range {P : Program} {w : World} {K : PySem.W.Frag} {tg : Expr} (it : Addr) (lo : Int) (n : Nat) : Turn P w K tg (Itr lo n) [it] it (fun i h => IsRangeIter h it (lo + (i : Nat) * 1) ((n : Int) - (i : Nat)) 1) where
  mem := by simp
  obj := fun i h st b hb => by
    have e : b = it := by simpa using hb
    subst e
    exact ⟨_, st, fun v z => by
      have z' : Data.fields _ = Data.cell v := z
      cases z'⟩
  keep := fun i h h' st k => k it (by simp) _ st
  item := by
    intro X hP hw hK hc i pins s σ H E I hf st hg
    subst hP hw hK
    obtain ⟨f0, f1, f2, f3, f4, f5⟩ := hf it (by simp)
    refine range_item hg st fun v h' tk hv st' kk => ?_
    obtain ⟨t, rfl⟩ := hv
    have I1 : Inv X pins σ H { s with heap := h', toks := tk } := I.turned (fun b o hb e => kk b o (by simpa using hb) e) f0 f1 f3 f4 f5
    refine ⟨_, rfl, go_of (s := { s with heap := h', toks := tk }) (n := "range_iterator") st' rfl rfl (by decide) ⟨.int (lo + i), H, I1, ⟨t, ?_⟩, ⟨rfl, rfl⟩, st', fun b hb => (hf b hb).1⟩⟩
    rw [Int.mul_one]
  done := by
    intro X hP hw hK hc i pins s σ H E I hf st hg
    subst hP hw hK
    obtain ⟨f0, f1, f2, f3, f4, f5⟩ := hf it (by simp)
    exact next_range_end (I.hb hc) st (by have : n ≤ i := hg; omega) fun h' eb => ⟨rfl, I.turned (t' := s.toks) (fun b o hb e => eb b o hb e) f0 f1 f3 f4 f5⟩
  self := fun _ _ _ _ _ st h => wpAny_pyIter_rangeiter st h
end L2
namespace L2
open PySem PySem.Spec PyProof.Rows
section
variable {X : Cx} {tg : Expr}
def iList (K : PySem.W.Frag) (tl : TE) : TI := fun σ H R => tl σ H fun x H1 => ∃ a, x = .ref a ∧ (∃ xs, SqL K H1 a xs) ∧ R (Itl K a) H1
def iTup (K : PySem.W.Frag) (tl : TE) : TI := fun σ H R => tl σ H fun x H1 => ∃ a, x = .ref a ∧ (∃ xs, SqT K H1 a xs) ∧ R (Itt K a) H1
theorem pi_list {l : Expr} {tl : TE} (hl : PE X l tl) : PI X tg l (iList X.K tl) := by
  intro pins s σ H R I h
  refine thn (hl pins s σ H _ I h) fun v s1 ⟨x, H1, I1, r1, q1⟩ => ?_
  obtain ⟨a, e, ⟨xs, hq⟩, q⟩ := q1
  subst e
  cases r1
  obtain ⟨its, rv, p, hz⟩ := I1.list hq
  refine wpAny_pyIter_list p.isList ?_
  refine ⟨s1.heap.objs.size, [s1.heap.objs.size], _, _, H1, rfl, I1.kept (t' := s1.toks) fun b o e => Heap.get?_push_of_some _ e, turn_list a _, ⟨_, Heap.get?_push_size _ rfl, rfl, rfl⟩, fun b hb => ?_, q⟩
  have e : b = s1.heap.objs.size := by simpa using hb
  subst e
  exact I1.fpOk (Nat.le_refl _) (I1.hok.fresh (Nat.le_refl _))
theorem pi_tup {l : Expr} {tl : TE} (hl : PE X l tl) : PI X tg l (iTup X.K tl) := by
  intro pins s σ H R I h
  refine thn (hl pins s σ H _ I h) fun v s1 ⟨x, H1, I1, r1, q1⟩ => ?_
  obtain ⟨a, e, ⟨xs, hq⟩, q⟩ := q1
  subst e
  cases r1
  obtain ⟨its, rv, p, hz⟩ := I1.tuple hq
  refine wpAny_pyIter_tuple (show s1.heap.IsTuple a its.toArray from p) ?_
  refine ⟨s1.heap.objs.size, [s1.heap.objs.size], _, _, H1, rfl, I1.kept (t' := s1.toks) fun b o e => Heap.get?_push_of_some _ e, turn_tuple a _, ⟨_, Heap.get?_push_size _ rfl, rfl, rfl⟩, fun b hb => ?_, q⟩
  have e : b = s1.heap.objs.size := by simpa using hb
  subst e
  exact I1.fpOk (Nat.le_refl _) (I1.hok.fresh (Nat.le_refl _))
theorem range_it {pins : List (Addr × Obj)} {σ : St} {H : Hp} {s : Shared} {R : It → Hp → Prop} {E : Value → Shared → Prop} {lo hi : Int} {t u v : Tok} {tk : Nat} (I : Inv X pins σ H s) (h1 : -(2 ^ 62) ≤ lo) (h2 : lo < 2 ^ 62) (h3 : -(2 ^ 62) ≤ hi) (h4 : hi < 2 ^ 62)
    (q : R (Itr lo (hi - lo).toNat) H) : wpAny (model X.prog X.w) X.A (pyIter (.ref s.heap.objs.size)) (PIE X pins σ tg R) E { s with heap := s.heap.push { cls := .type "range", data := .fields #[.int lo t, .int hi u, .int 1 v] }, toks := tk } := by
  refine wpAny_pyIter_range (IsRange.new ..) (small_one h1 h2 h3 h4) ?_
  have I1 : Inv X pins σ H { s with heap := s.heap.push { cls := .type "range", data := .fields #[.int lo t, .int hi u, .int 1 v] }, toks := tk } := I.kept fun b o e => Heap.get?_push_of_some _ e
  refine ⟨(s.heap.push { cls := .type "range", data := .fields #[.int lo t, .int hi u, .int 1 v] }).objs.size, [(s.heap.push { cls := .type "range", data := .fields #[.int lo t, .int hi u, .int 1 v] }).objs.size], _, _, H, rfl,
    I1.kept (t' := tk) fun b o e => Heap.get?_push_of_some _ e, turn_range _ lo (hi - lo).toNat, ?_, fun b hb => ?_, q⟩
  · have e1 : lo + ((0 : Nat) : Int) * 1 = lo := by simp
    have e2 : (((hi - lo).toNat : Nat) : Int) - ((0 : Nat) : Int) = Builtin.Range.rangeSize lo hi 1 := by rw [rangeSize_one]; split <;> omega
    show IsRangeIter _ _ (lo + ((0 : Nat) : Int) * 1) ((((hi - lo).toNat : Nat) : Int) - ((0 : Nat) : Int)) 1
    rw [e1, e2]
    exact Heap.get?_push_size _ rfl
  · have e : b = (s.heap.push { cls := .type "range", data := .fields #[.int lo t, .int hi u, .int 1 v] }).objs.size := by simpa using hb
    subst e
    exact I1.fpOk (Nat.le_refl _) (I1.hok.fresh (Nat.le_refl _))
def iRng1 (ta : TA) : TI := fun σ H R => ta σ H fun vs H1 => ∃ j : Int, vs = [.int j] ∧ -(2 ^ 62) ≤ j ∧ j < 2 ^ 62 ∧ R (Itr 0 j.toNat) H1
theorem pi_range1 {a : Expr} {ta : TA} {p pos : Pos} (hg : Gl X "range") (hm : X.mg "range" = none) (ha : PA X [a] ta) (hs : starEach [a] X.env = [(false, eval a X.env)] := by rfl) : PI X tg (.Call (.Name "range" p) [a] [] pos) (iRng1 ta) := by
  intro pins s σ H R I h
  refine Call_ (ld_blt I hg hm boot_range (PyProof.Rows.callWith_type1 (thn (ha pos pins s σ H _ I h) fun us s1 ⟨vs, H1, I1, r1, q1⟩ => ?_) hs rfl))
  obtain ⟨j, e, q1, q2, q⟩ := q1
  subst e
  cases r1 with
  | cons r rr =>
    cases rr
    obtain ⟨t, rfl⟩ := r
    exact call_range_1 (range_it I1 (by omega) (by omega) q1 q2 (by simpa using q))
def tFor (wi : TI) (g : TG) (tb : TS) : TS := fun D σ H => wi σ H fun J H1 => ∃ W : Nat → Nat → St → Hp → Prop, (∃ m, W 0 m σ H1) ∧ ∀ i m σ H, W i m σ H →
  (J.stop i H ∧ D.nx σ H) ∨ (J.go i H ∧ ∃ N : St → Hp → Prop, (∀ σ' H', N σ' H' → ∃ m', m' < m ∧ W (i + 1) m' σ' H') ∧ ∀ x H', J.yld i H x H' → g x σ H' fun σ2 H2 => tb { D with nx := N, ct := N, bk := D.nx } σ2 H2)
def pinsAt (fp : List Addr) (h : Heap) : List (Addr × Obj) := fp.filterMap fun b => (h.get? b).map fun o => (b, o)
theorem mem_pinsAt {fp : List Addr} {h : Heap} {b : Addr} {o : Obj} (hb : b ∈ fp) (e : h.get? b = some o) : (b, o) ∈ pinsAt fp h := List.mem_filterMap.mpr ⟨b, hb, by rw [e]; rfl⟩
theorem of_pinsAt {fp : List Addr} {h : Heap} {p : Addr × Obj} (hp : p ∈ pinsAt fp h) : p.1 ∈ fp ∧ h.get? p.1 = some p.2 := by
  obtain ⟨b, hb, e⟩ := List.mem_filterMap.mp hp
  cases q : h.get? b with
  | none => rw [q] at e; cases e
  | some o =>
    rw [q] at e
    have e' : (b, o) = p := Option.some.inj e
    subst e'
    exact ⟨hb, q⟩
theorem Inv.pinned {pins : List (Addr × Obj)} {σ : St} {H : Hp} {s : Shared} {fp : List Addr} (I : Inv X pins σ H s) (hf : ∀ b ∈ fp, FpOk X pins H b) (ho : ∀ b ∈ fp, ∃ o, s.heap.get? b = some o ∧ ∀ v, o.data ≠ .cell v) : Inv X (pins ++ pinsAt fp s.heap) σ H s :=
  I.pins_of fun p hp => (List.mem_append.mp hp).elim (fun z => I.pin p (List.mem_append_right _ z)) fun z => by
    obtain ⟨hb, e⟩ := of_pinsAt z
    obtain ⟨f0, f1, f2, _⟩ := hf p.1 hb
    obtain ⟨o, e', d⟩ := ho p.1 hb
    rw [e] at e'; cases e'
    exact ⟨e, f0, f1, f2, d⟩
theorem Inv.unpinned {pins pl : List (Addr × Obj)} {σ : St} {H : Hp} {s : Shared} (I : Inv X (pins ++ pl) σ H s) : Inv X pins σ H s := I.pins_of fun p hp => I.pin p (List.mem_append_right _ (List.mem_append_left _ hp))
theorem ps_for {iter : Expr} {body : List Stmt} {wi : TI} {g : TG} {tb : TS} {pos : Pos} (hp : PassesOwn (model X.prog X.w) X.A X.env X.xe) (hc : X.calm = true) (hi : PI X tg iter wi) (hg : PG X tg g) (hb : PSs X body tb)
    (hs : ∀ x, foldedSetIterable iter X.env x = pure x := by intro _; rfl) : PS X (.For tg iter body [] pos) (tFor wi g tb) := by
  intro pins s σ H D I h
  refine wpAny_For (thn (hi pins s σ H _ I h) fun v s1 h1 => thn h1 fun itv s2 h2 => ?_) hs
  obtain ⟨it, fp, tn, J, H2, e, I2, T, st2, f2, W, ⟨m0, w0⟩, turn⟩ := h2
  subst e
  -- what stays true of the iterator's objects through the loop
  have stat : ∀ {H' : Hp}, (∀ b ∈ fp, H' b = none) → ∀ b ∈ fp, FpOk X pins H' b := fun hn b hb => ⟨hn b hb, (f2 b hb).2⟩
  refine codeAny_forLoop_any (fun n s' => ∃ i σ' H', Inv X pins σ' H' s' ∧ tn i s'.heap ∧ (∀ b ∈ fp, H' b = none) ∧ W i n σ' H') ?_ m0 ⟨0, σ, H2, I2, st2, fun b hb => (f2 b hb).1, w0⟩
  rintro n s3 ⟨i, σ3, H3, I3, st3, fr3, w3⟩
  rcases turn i n σ3 H3 w3 with ⟨stop, qn⟩ | ⟨go, N, hN, step⟩
  · refine wpAny_passesOwn hp (thn (T.done X rfl rfl rfl hc i pins s3 σ3 H3 X.xe I3 (stat fr3) st3 stop) fun r s4 ⟨hr, I4⟩ => ?_)
    subst hr
    exact wpAny_execs_nil ⟨σ3, H3, I4, qn⟩
  · refine wpAny_passesOwn hp (thn (T.item X rfl rfl rfl hc i pins s3 σ3 H3 X.xe I3 (stat fr3) st3 go) fun r s4 ⟨u, hr, h4⟩ => ?_)
    subst hr
    refine wpAny_passesOwn hp (thn h4 fun _ s5 ⟨x, H5, I5, r5, y5, st5, fr5⟩ => ?_)
    have I5' := I5.pinned (stat fr5) (T.obj _ _ st5)
    refine wpAny_passesOwn hp (thn (hg _ s5 σ3 H5 x u _ I5' r5 (step x H5 y5)) fun _ s6 ⟨σ6, H6, I6, q6⟩ => ?_)
    refine wpAny_passesOwn hp (thn (hb _ s6 σ6 H6 _ I6 q6) fun f s7 q7 => ?_)
    have again : ∀ {σ7 : St} {H7 : Hp}, Inv X (pins ++ pinsAt fp s5.heap) σ7 H7 s7 → N σ7 H7 → ∃ m, m < n ∧ ∃ i σ' H', Inv X pins σ' H' s7 ∧ tn i s7.heap ∧ (∀ b ∈ fp, H' b = none) ∧ W i m σ' H' := fun {σ7 H7} I7 n7 => by
      obtain ⟨m', hm, w7⟩ := hN σ7 H7 n7
      refine ⟨m', hm, i + 1, σ7, H7, I7.unpinned, T.keep _ _ _ st5 fun b hb o e => (I7.pin (b, o) (List.mem_append_right _ (List.mem_append_right _ (mem_pinsAt hb e)))).1, fun b hb => ?_, w7⟩
      obtain ⟨o, e, d⟩ := T.obj _ _ st5 b hb
      exact (I7.pin (b, o) (List.mem_append_right _ (List.mem_append_right _ (mem_pinsAt hb e)))).2.1
    cases f with
    | next => obtain ⟨σ7, H7, I7, n7⟩ := q7; exact again I7 n7
    | cont => obtain ⟨σ7, H7, I7, n7⟩ := q7; exact again I7 n7
    | brk => obtain ⟨σ7, H7, I7, q7⟩ := q7; exact ⟨σ7, H7, I7.unpinned, q7⟩
    | ret v => obtain ⟨x7, σ7, H7, I7, r7, q7⟩ := q7; exact ⟨x7, σ7, H7, I7.unpinned, r7, q7⟩
end
end L2
namespace L2
open PySem PySem.Spec PyProof.Rows
abbrev R2 := V → V → Hp → VK → Prop
def OpR (X : Cx) (f : Value → Value → Sem Value) (r : R2) : Prop :=
  ∀ (pins : List (Addr × Obj)) (s : Shared) (σ : St) (H : Hp) (x y : V) (v u : Value) (Q : VK), Inv X pins σ H s → RelV x v → RelV y u → r x y H Q →
    wpAny (model X.prog X.w) X.A (f v u) (EP X pins σ Q) X.xe s
def UnR (X : Cx) (f : Value → Sem Value) (r : V → Hp → VK → Prop) : Prop :=
  ∀ (pins : List (Addr × Obj)) (s : Shared) (σ : St) (H : Hp) (x : V) (v : Value) (Q : VK), Inv X pins σ H s → RelV x v → r x H Q →
    wpAny (model X.prog X.w) X.A (f v) (EP X pins σ Q) X.xe s
def CallR (X : Cx) (f : Value) (r : List V → Hp → VK → Prop) : Prop :=
  ∀ (pins : List (Addr × Obj)) (s : Shared) (σ : St) (H : Hp) (xs : List V) (us : List Value) (Q : VK), Inv X pins σ H s → Vals xs us → r xs H Q →
    wpAny (model X.prog X.w) X.A (call f us) (EP X pins σ Q) X.xe s
def tOp (r : R2) (ta tb : TE) : TE := fun σ H Q => ta σ H fun x H1 => tb σ H1 fun y H2 => r x y H2 Q
def tUn (r : V → Hp → VK → Prop) (ta : TE) : TE := fun σ H Q => ta σ H fun x H1 => r x H1 Q
def rI (C : Int → Int → Prop) (g : Int → Int → V) : R2 := fun x y H Q => ∃ i j, x = .int i ∧ y = .int j ∧ C i j ∧ Q (g i j) H
def rI0 (g : Int → Int → V) : R2 := fun x y H Q => ∃ i j, x = .int i ∧ y = .int j ∧ Q (g i j) H
def rU (g : Int → V) : V → Hp → VK → Prop := fun x H Q => ∃ i, x = .int i ∧ Q (g i) H
section
variable {X : Cx} {a b c : Expr} {ta tb tc : TE} {pos : Pos}
theorem binT (ha : PE X a ta) (hb : PE X b tb) {pins : List (Addr × Obj)} {s : Shared} {σ : St} {H : Hp} {R : V → V → Hp → Prop} (I : Inv X pins σ H s)
    (h : ta σ H fun x H1 => tb σ H1 fun y H2 => R x y H2) {Q : Value → Shared → Prop} {f : Value → Value → Sem Value}
    (hf : ∀ v u s2 x y H2, Inv X pins σ H2 s2 → RelV x v → RelV y u → R x y H2 → wpAny (model X.prog X.w) X.A (f v u) Q X.xe s2) :
    wpAny (model X.prog X.w) X.A (eval a X.env) (fun v s₁ => wpAny (model X.prog X.w) X.A (eval b X.env) (fun u s₂ => wpAny (model X.prog X.w) X.A (f v u) Q X.xe s₂) X.xe s₁) X.xe s := by
  refine thn (ha pins s σ H _ I h) fun v s1 ⟨x, H1, I1, r1, q1⟩ => ?_
  refine thn (hb pins s1 σ H1 _ I1 q1) fun u s2 ⟨y, H2, I2, r2, q2⟩ => ?_
  exact hf v u s2 x y H2 I2 r1 r2 q2
theorem pe_op {op : Operator} {r : R2} (ho : OpR X (binaryOp op) r) (ha : PE X a ta) (hb : PE X b tb) : PE X (.BinOp a op b pos) (tOp r ta tb) := by
  intro pins s σ H Q I h
  exact wpAny_BinOp (binT ha hb I h fun v u s2 x y H2 I2 rx ry q => ho pins s2 σ H2 x y v u Q I2 rx ry q)
theorem pe_un {op : UnaryOp} {r : V → Hp → VK → Prop} (ho : UnR X (unaryOp op) r) (ha : PE X a ta) : PE X (.UnaryOp op a pos) (tUn r ta) := by
  intro pins s σ H Q I h
  exact UnaryOp_ (thn (ha pins s σ H _ I h) fun v s1 ⟨x, H1, I1, r1, q1⟩ => ho pins s1 σ H1 x v Q I1 r1 q1)
theorem opI {f : Value → Value → Sem Value} {C : Int → Int → Prop} {g : Int → Int → Int}
    (rule : ∀ (i j : Int) (t u : Tok) (s : Shared) (Q : Value → Shared → Prop) (E : Value → Shared → Prop), C i j → Q (.int (g i j) s.toks) { s with toks := s.toks + 1 } → wpAny (model X.prog X.w) X.A (f (.int i t) (.int j u)) Q E s) :
    OpR X f (rI C fun i j => .int (g i j)) := by
  intro pins s σ H x y v u Q I rx ry h
  obtain ⟨i, j, rfl, rfl, hc, q⟩ := h
  obtain ⟨t, rfl⟩ := rx
  obtain ⟨t', rfl⟩ := ry
  exact rule i j t t' s _ _ hc ⟨.int (g i j), H, I.tok _, ⟨_, rfl⟩, q⟩
theorem opI0 {f : Value → Value → Sem Value} {g : Int → Int → Int}
    (rule : ∀ (i j : Int) (t u : Tok) (s : Shared) (Q : Value → Shared → Prop) (E : Value → Shared → Prop), Q (.int (g i j) s.toks) { s with toks := s.toks + 1 } → wpAny (model X.prog X.w) X.A (f (.int i t) (.int j u)) Q E s) :
    OpR X f (rI0 fun i j => .int (g i j)) := by
  intro pins s σ H x y v u Q I rx ry h
  obtain ⟨i, j, rfl, rfl, q⟩ := h
  obtain ⟨t, rfl⟩ := rx
  obtain ⟨t', rfl⟩ := ry
  exact rule i j t t' s _ _ ⟨.int (g i j), H, I.tok _, ⟨_, rfl⟩, q⟩
theorem opB0 {f : Value → Value → Sem Value} {g : Int → Int → Bool}
    (rule : ∀ (i j : Int) (t u : Tok) (s : Shared) (Q : Value → Shared → Prop) (E : Value → Shared → Prop), Q (.bool (g i j)) s → wpAny (model X.prog X.w) X.A (f (.int i t) (.int j u)) Q E s) :
    OpR X f (rI0 fun i j => .bl (g i j)) := by
  intro pins s σ H x y v u Q I rx ry h
  obtain ⟨i, j, rfl, rfl, q⟩ := h
  obtain ⟨t, rfl⟩ := rx
  obtain ⟨t', rfl⟩ := ry
  exact rule i j t t' s _ _ ⟨.bl (g i j), H, I, rfl, q⟩
def CDiv (i j : Int) : Prop := 0 < j ∧ j < 1073741824
def CPow (i j : Int) : Prop := 0 ≤ j ∧ j ≤ 1000000 ∧ i.natAbs < 2 ^ 64
def CMul (i j : Int) : Prop := (-(2 ^ 64) < i ∧ i < 2 ^ 64) ∨ (-(2 ^ 64) < j ∧ j < 2 ^ 64)
theorem CMul.ok {i j : Int} (h : CMul i j) : IntMulOk i j := by
  rcases h with ⟨h1, h2⟩ | ⟨h1, h2⟩
  · exact .of_left (intBits_le_64 h1 h2)
  · exact .of_right (intBits_le_64 h1 h2)
theorem op_add : OpR X (binaryOp .Add) (rI0 fun i j => .int (i + j)) := opI0 fun _ _ _ _ _ _ _ q => add_int q
theorem op_sub : OpR X (binaryOp .Sub) (rI0 fun i j => .int (i - j)) := opI0 fun _ _ _ _ _ _ _ q => sub_int q
theorem op_mul : OpR X (binaryOp .Mult) (rI CMul fun i j => .int (i * j)) := opI fun _ _ _ _ _ _ _ hc q => mul_int q hc.ok
theorem op_fdiv : OpR X (binaryOp .FloorDiv) (rI CDiv fun i j => .int (i / j)) := opI fun i j _ _ _ _ _ hc q => by
  have h1 : (0 : Int) < j := hc.1
  have h2 : j < 1073741824 := hc.2
  exact floordiv_int (by omega) (by rw [Int.fdiv_eq_ediv_of_nonneg i (by omega)]; exact q) (.inl (PyProof.noPylong_small (by omega)))
theorem op_mod : OpR X (binaryOp .Mod) (rI (fun _ j => 0 < j) fun i j => .int (i % j)) := opI fun i j _ _ _ _ _ hc q => by
  have h1 : (0 : Int) < j := hc
  exact mod_int' (by omega) (by rw [Int.fmod_eq_emod_of_nonneg i (by omega)]; exact q)
theorem op_pow : OpR X (binaryOp .Pow) (rI CPow fun i j => .int (i ^ j.toNat)) := opI fun _ _ _ _ _ _ _ hc q => pow_int_small hc.1 hc.2.1 hc.2.2 q
theorem unI {f : Value → Sem Value} {g : Int → Int}
    (rule : ∀ (i : Int) (t : Tok) (s : Shared) (Q : Value → Shared → Prop) (E : Value → Shared → Prop), Q (.int (g i) s.toks) { s with toks := s.toks + 1 } → wpAny (model X.prog X.w) X.A (f (.int i t)) Q E s) :
    UnR X f (rU fun i => .int (g i)) := by
  intro pins s σ H x v Q I rx h
  obtain ⟨i, rfl, q⟩ := h
  obtain ⟨t, rfl⟩ := rx
  exact rule i t s _ _ ⟨.int (g i), H, I.tok _, ⟨_, rfl⟩, q⟩
theorem un_neg : UnR X (unaryOp .USub) (rU fun i => .int (-i)) := unI fun _ _ _ _ _ q => neg_int q
end
def scal : V → V → Bool
  | .non, .non => true | .non, .int _ => true | .int _, .non => true | .non, .bl _ => true | .bl _, .non => true | .non, .str _ => true | .str _, .non => true
  | .int _, .int _ => true | .bl _, .bl _ => true | .str _, .str _ => true | .byt _, .byt _ => true
  | .int _, .str _ => true | .str _, .int _ => true | .bl _, .str _ => true | .str _, .bl _ => true
  | _, _ => false
def rEq : R2 := fun x y H Q => scal x y = true ∧ Q (.bl (decide (x = y))) H
theorem dec_int {i j : Int} : decide (V.int i = V.int j) = (i == j) := by
  rw [Bool.eq_iff_iff]
  simp
theorem dec_bl {i j : Bool} : decide (V.bl i = V.bl j) = (i == j) := by
  rw [Bool.eq_iff_iff]
  simp
theorem dec_str {i j : Str} : decide (V.str i = V.str j) = (i == j) := by
  rw [Bool.eq_iff_iff]
  simp
theorem dec_byt {i j : Array UInt8} : decide (V.byt i = V.byt j) = (i.toList == j.toList) := by
  rw [Bool.eq_iff_iff]
  cases i
  cases j
  simp
section
variable {X : Cx} {a b c : Expr} {ta tb tc : TE} {pos : Pos}
theorem fin_bl {pins : List (Addr × Obj)} {σ : St} {H : Hp} {s : Shared} {Q : VK} {k k' : Bool} (I : Inv X pins σ H s) (q : Q (.bl k) H) (e : k = k') : EP X pins σ Q (.bool k') s := by
  subst e
  exact ⟨.bl k, H, I, rfl, q⟩
theorem op_eq : OpR X (compareOp .Eq) rEq := by
  intro pins s σ H x y v u Q I rx ry h
  obtain ⟨hs, q⟩ := h
  cases x with
  | non =>
    cases rx
    cases y with
    | non => cases ry; exact PySem.EqNone.eq_none_none (fin_bl I q (by simp))
    | bl j => cases ry; exact PySem.EqNone.eq_none_bool (fin_bl I q (by simp))
    | int j => obtain ⟨t', rfl⟩ := ry; exact PySem.EqNone.eq_none_int (fin_bl I q (by simp))
    | str j => obtain ⟨t', rfl⟩ := ry; exact PySem.EqNone.eq_none_str (fin_bl I q (by simp))
    | _ => exact absurd (show false = true from hs) Bool.false_ne_true
  | bl i =>
    cases rx
    cases y with
    | non => cases ry; exact PySem.EqNone.eq_bool_none (fin_bl I q (by simp))
    | bl j => cases ry; exact eq_bool (fin_bl I q dec_bl)
    | str j => obtain ⟨t', rfl⟩ := ry; exact PySem.EqMixed.eq_bool_str (fin_bl I q (by simp))
    | _ => exact absurd (show false = true from hs) Bool.false_ne_true
  | int i =>
    obtain ⟨t, rfl⟩ := rx
    cases y with
    | non => cases ry; exact PySem.EqNone.eq_int_none (fin_bl I q (by simp))
    | int j => obtain ⟨t', rfl⟩ := ry; exact eq_int (fin_bl I q dec_int)
    | str j => obtain ⟨t', rfl⟩ := ry; exact PySem.EqMixed.eq_int_str (fin_bl I q (by simp))
    | _ => exact absurd (show false = true from hs) Bool.false_ne_true
  | str i =>
    obtain ⟨t, rfl⟩ := rx
    cases y with
    | non => cases ry; exact PySem.EqNone.eq_str_none (fin_bl I q (by simp))
    | bl j => cases ry; exact PySem.EqMixed.eq_str_bool (fin_bl I q (by simp))
    | int j => obtain ⟨t', rfl⟩ := ry; exact PySem.EqMixed.eq_str_int (fin_bl I q (by simp))
    | str j => obtain ⟨t', rfl⟩ := ry; exact eq_str (fin_bl I q dec_str)
    | _ => exact absurd (show false = true from hs) Bool.false_ne_true
  | byt i =>
    obtain ⟨t, rfl⟩ := rx
    cases y with
    | byt j => obtain ⟨t', rfl⟩ := ry; exact PySem.W.eq_bytes (fin_bl I q dec_byt)
    | _ => exact absurd (show false = true from hs) Bool.false_ne_true
  | _ => cases y <;> exact absurd (show false = true from hs) Bool.false_ne_true
theorem op_lt : OpR X (compareOp .Lt) (rI0 fun i j => .bl (decide (i < j))) := opB0 fun _ _ _ _ _ _ _ q => lt_int q
theorem op_le : OpR X (compareOp .LtE) (rI0 fun i j => .bl (decide (i ≤ j))) := opB0 fun _ _ _ _ _ _ _ q => le_int q
theorem op_gt : OpR X (compareOp .Gt) (rI0 fun i j => .bl (decide (j < i))) := opB0 fun _ _ _ _ _ _ _ q => gt_int q
theorem op_isN : OpR X (compareOp .Is) (fun x y H Q => y = .non ∧ Q (.bl (decide (x = .non))) H) := by
  intro pins s σ H x y v u Q I rx ry h
  obtain ⟨rfl, q⟩ := h
  cases ry
  refine is_none_gen (fin_bl I q ?_)
  cases x <;> first
    | (cases rx; rfl)
    | (obtain ⟨t, rfl⟩ := rx; rfl)
theorem nomark (b : Expr) {op : CmpOp} (h : op ≠ .In := by decide) (h2 : op ≠ .NotIn := by decide) : behindInMarks op b = false := by
  have e1 : (op == CmpOp.In) = false := by cases op <;> first | rfl | exact absurd rfl h
  have e2 : (op == CmpOp.NotIn) = false := by cases op <;> first | rfl | exact absurd rfl h2
  cases b <;> simp [behindInMarks, e1, e2]
theorem pe_cmpR {op : CmpOp} {r : R2} (ho : OpR X (compareOp op) r) (ha : PE X a ta) (hb : PE X b tb) (hm : behindInMarks op b = false) : PE X (.Compare a [op] [b] pos) (tOp r ta tb) := by
  intro pins s σ H Q I h
  exact wpAny_Compare1 (binT ha hb I h fun v u s2 x y H2 I2 rx ry q => ho pins s2 σ H2 x y v u Q I2 rx ry q) hm
def tTest (t : TE) : TT := fun σ H Q => t σ H fun x H' => ∃ k, x = .bl k ∧ Q k H'
theorem pt_cmpR {op : CmpOp} {r : R2} (ho : OpR X (compareOp op) r) (ha : PE X a ta) (hb : PE X b tb) (hm : behindInMarks op b = false) : PT X (.Compare a [op] [b] pos) (tTest (tOp r ta tb)) := by
  intro pins s σ H Q I h
  refine wpAny_isTrue_Compare1 (thn (ha pins s σ H _ I h) fun v s1 ⟨x, H1, I1, r1, q1⟩ => thn (hb pins s1 σ H1 _ I1 q1) fun u s2 ⟨y, H2, I2, r2, q2⟩ =>
    thn (ho pins s2 σ H2 x y v u _ I2 r1 r2 q2) fun c s3 ⟨z, H3, I3, r3, k, e, q3⟩ => ?_) hm
  subst e
  cases r3
  exact wpAny_truthy_bool ⟨H3, I3, q3⟩
theorem line63 : (sizeLine : Nat) < 2 ^ 63 := by rw [sizeLine_eq]; decide
theorem op_add_str : OpR X (binaryOp .Add) (fun x y H Q => ∃ i j, x = .str i ∧ y = .str j ∧ i.length + j.length ≤ sizeLine ∧ Q (.str (i ++ j)) H) := by
  intro pins s σ H x y v u Q I rx ry h
  obtain ⟨i, j, rfl, rfl, hz, q⟩ := h
  obtain ⟨t, rfl⟩ := rx
  obtain ⟨t', rfl⟩ := ry
  exact add_str (fun t' tk => ⟨.str (i ++ j), H, I.tok _, ⟨_, rfl⟩, q⟩) hz
theorem vals1 {x : V} {us : List Value} (r : Vals [x] us) : ∃ u, us = [u] ∧ RelV x u := by
  cases r with
  | cons r1 r2 => cases r2; exact ⟨_, rfl, r1⟩
theorem call_int1 : CallR X (.type "int") (fun xs H Q => (∃ i, xs = [.int i] ∧ Q (.int i) H) ∨ ∃ k, xs = [.bl k] ∧ Q (.int (if k then 1 else 0)) H) := by
  intro pins s σ H xs us Q I r h
  rcases h with ⟨i, rfl, q⟩ | ⟨k, rfl, q⟩
  · obtain ⟨u, rfl, t, rfl⟩ := vals1 r
    exact call_int_int ⟨.int i, H, I, ⟨_, rfl⟩, q⟩
  · obtain ⟨u, rfl, r1⟩ := vals1 r
    cases r1
    exact call_int_bool ⟨.int (if k then 1 else 0), H, I.tok _, ⟨_, rfl⟩, q⟩
end
end L2
namespace L2
open PySem PySem.Spec PyProof.Rows
structure ObjM (h : Heap) (x dx C : Addr) (mA : Str → Option Value) : Prop where
  obj : h.get? x = some (PySem.W.instObj C dx)
  ns : h.Ns1 dx mA
  ne : dx ≠ x
theorem lookIn_ns {h : Heap} {dx : Addr} {mA : Str → Option Value} (n : h.Ns1 dx mA) : ∃ od, h.get? dx = some od ∧ ∀ name, PySem.W.lookIn name od = some (mA name) := by
  obtain ⟨o, es, ep, ho, hd, hk, _, hm⟩ := n
  refine ⟨o, ho, fun name => ?_⟩
  have e := hm name
  unfold nsFind findBy at e
  rw [← Array.find?_toList] at e
  unfold PySem.W.lookIn
  rw [hd]
  dsimp only
  split
  · rename_i y q
    rw [q] at e
    exact congrArg some e
  · rename_i q
    rw [q] at e
    have a : es.toList.any (·.refKey) = false := by
      rw [List.any_eq_false]
      intro y hy
      obtain ⟨z, t, hkey⟩ := hk y (Array.mem_toList_iff.mp hy)
      simp [DictEntry.refKey, hkey]
    have a' : ¬ es.toList.any (·.refKey) = true := by rw [a]; exact Bool.false_ne_true
    rw [if_neg a']
    exact congrArg some e
theorem ObjM.look {h : Heap} {x dx C : Addr} {mA : Str → Option Value} (I : ObjM h x dx C mA) : ∃ od, PySem.W.InstAt h x (PySem.W.instObj C dx) C (some od) ∧ ∀ name, PySem.W.lookIn name od = some (mA name) :=
  let ⟨od, ho, hl⟩ := lookIn_ns I.ns
  ⟨od, ⟨I.obj, rfl, rfl, ho⟩, hl⟩
section
variable {prog : Program} {w : World} {A : Around} {E : Value → Shared → Prop} {s : Shared} {K : PySem.W.Frag} {x dx C f : Addr} {mA : Str → Option Value} {name : Str} {v : Value}
end
theorem RelO.some_of {v : V} {o : Option Value} (r : RelO (some v) o) : ∃ u, o = some u ∧ RelV v u := by
  cases o with
  | none => exact (show False from r).elim
  | some u => exact ⟨u, rfl, r⟩
section
variable {P : Program} {w : World} {H H' : Hp} {h h' : Heap} {a C dx : Addr} {fs fs' : List (Str × V)}
theorem ins_get (hok : HOk P w H h) (e : H a = some (.ins C dx fs)) : ∃ mA, ObjM h a dx C mA ∧ (∀ f, RelO (fs.lookup f) (mA f)) ∧ PySem.Within mA (fs.map (·.1)) ∧ fs.length ≤ 1000 ∧ H dx = some (.own a) := by
  obtain ⟨d, z, ne, ob, mA, n, r, q⟩ := (show ObjOk P w H h a (.ins C dx fs) from hok a _ e)
  exact ⟨mA, ⟨ob, n, ne⟩, r, q, z, d⟩
end
structure Cls (K : PySem.W.Frag) (C : Addr) : Prop where
  pg : PySem.W.plainGet K C Str.empty = true
  hd : PySem.W.hasDictIn K C = true
  po : PySem.W.plainOver K C = true
  sa : PySem.W.findIn K (.ref C) "__setattr__" = some (some (.builtin "object.__setattr__"))
theorem Cls.get {K : PySem.W.Frag} {C : Addr} (c : Cls K C) (f : Str) : PySem.W.plainGet K C f = true := c.pg
structure Con (K : PySem.W.Frag) (C : Addr) (f : Str) (v : V) (u : Value) : Prop where
  at_ : PySem.W.findIn K (.ref C) f = some (some u)
  rel : RelV v u
  get : PySem.W.specialIn K u "__get__" = some none
  cp : PySem.W.copiedNames.contains f = false
structure Meth (K : PySem.W.Frag) (C : Addr) (m : Str) (f : Addr) : Prop where
  at_ : PySem.W.findIn K (.ref C) m = some (some (.ref f))
  fn : PySem.W.isFn K (.ref f) = true
  kp : PySem.W.keepIn K (.ref f) = true
section
variable {X : Cx} {pins : List (Addr × Obj)} {σ : St} {H : Hp} {s : Shared} {a C dx : Addr} {fs : List (Str × V)} {f : Str} {v : V} {A : Around} {E : Value → Shared → Prop}
theorem Inv.made (I : Inv X pins σ H s) : Inv X pins σ (upd (upd H s.heap.objs.size (.own (s.heap.objs.size + 1))) (s.heap.objs.size + 1) (.ins C s.heap.objs.size []))
    { s with heap := (s.heap.push PySem.W.emptyDict).push (PySem.W.instObj C s.heap.objs.size) } := by
  have e1 : (s.heap.push PySem.W.emptyDict).get? s.heap.objs.size = some PySem.W.emptyDict := Heap.get?_push_size s.heap rfl
  have e2 : ((s.heap.push PySem.W.emptyDict).push (PySem.W.instObj C s.heap.objs.size)).get? (s.heap.objs.size + 1) = some (PySem.W.instObj C s.heap.objs.size) := by
    have := Heap.get?_push_size (s.heap.push PySem.W.emptyDict) (o := PySem.W.instObj C s.heap.objs.size) rfl
    rwa [Heap.size_push] at this
  have e3 : (s.heap.push PySem.W.emptyDict).Ns s.heap.objs.size (fun _ => none) := ⟨PySem.W.emptyDict, #[], _, e1, rfl, (fun e he => absurd he (by simp)), fun _ => rfl⟩
  have I1 := I.laid (a := s.heap.objs.size) (o := .own (s.heap.objs.size + 1)) (h' := s.heap.push PySem.W.emptyDict) (t' := s.toks) (fun b u q => Heap.get?_push_of_some _ q) (Nat.le_refl _) ⟨_, e1⟩
  refine I1.laid (a := s.heap.objs.size + 1) (o := .ins C s.heap.objs.size []) (t' := s.toks) (fun b u q => Heap.get?_push_of_some _ q) (Nat.le_of_eq (Heap.size_push _ _)) ?_
  have ne : s.heap.objs.size ≠ s.heap.objs.size + 1 := Nat.ne_of_lt (Nat.lt_succ_self _)
  refine ⟨by rw [upd_ne ne, upd_same], Nat.zero_le _, ne, e2, fun _ => none, (Heap.Ns1.of_empty e3).at fun o q => Heap.get?_push_of_some _ q, fun _ => True.intro, fun y hy => absurd rfl hy⟩
end
section
variable {X : Cx} {o e value : Expr} {f : Str} {pos pos' tpos : Pos} {ta tv : TE}
end
section
variable {X : Cx} {pins : List (Addr × Obj)} {σ : St} {H : Hp} {s : Shared} {A : Around} {E : Value → Shared → Prop} {Q : Value → Shared → Prop} {c : Value} {b : Bool}
inductive TyOf (K : PySem.W.Frag) (H : Hp) : V → Value → Prop where
  | non : TyOf K H .non (.type "NoneType")
  | bl (x : Bool) : TyOf K H (.bl x) (.type "bool")
  | int (i : Int) : TyOf K H (.int i) (.type "int")
  | str (x : Str) : TyOf K H (.str x) (.type "str")
  | flt (x : UInt64) : TyOf K H (.flt x) (.type "float")
  | lst {a : Addr} {xs : List V} (e : H a = some (.lst xs)) : TyOf K H (.ref a) (.type "list")
  | frz {a : Addr} {o : Obj} {xs : List V} (e : H a = some (.frz o (.lst xs))) : TyOf K H (.ref a) (.type "list")
  | tup {a : Addr} {xs : List V} (e : H a = some (.tup xs)) : TyOf K H (.ref a) (.type "tuple")
  | dK {a : Addr} {kvs : List (Key × V)} (e : H a = some (.dK kvs)) : TyOf K H (.ref a) (.type "dict")
  | dT {a : Addr} {kvs : List (List Key × V)} (e : H a = some (.dT kvs)) : TyOf K H (.ref a) (.type "dict")
  | ins {a C dx : Addr} {fs : List (Str × V)} (e : H a = some (.ins C dx fs)) (cl : Cls K C) (ha : PySem.W.findIn K (.ref C) "__class__" = some (some (.builtin "object.__class__")))
      (hn : PySem.W.specialIn K (.builtin "object.__class__") "__get__" = some (some (.builtin "getset_descriptor.__get__"))) (htk : PySem.W.takesIn K (.builtin "object.__class__") = some true)
      (hm : PySem.W.mroIn K C (.type "object") = some true) : TyOf K H (.ref a) (.ref C)
theorem isinst_ok {x : V} {u t : Value} (I : Inv X pins σ H s) (rx : RelV x u) (ty : TyOf X.K H x t) (e : PySem.W.kitOne X.K t c = some b) (h : ∀ tk, Q (.bool b) { s with toks := tk }) :
    wpAny (model X.prog X.w) A (call (.builtin "isinstance") [u, c]) Q E s := by
  cases ty with
  | non => cases (show u = Value.none from rx); exact PySem.W.kia_one PySem.W.kitx_none I.kIn True.intro e (fun z => nomatch z) h
  | bl y => cases (show u = Value.bool y from rx); exact PySem.W.kia_one PySem.W.kitx_bool I.kIn True.intro e (fun z => nomatch z) h
  | int i => obtain ⟨t, q⟩ := (show ∃ t, u = Value.int i t from rx); cases q; exact PySem.W.kia_one PySem.W.kitx_int I.kIn True.intro e (fun z => nomatch z) h
  | str y => obtain ⟨t, q⟩ := (show ∃ t, u = Value.str y t from rx); cases q; exact PySem.W.kia_one PySem.W.kitx_str I.kIn True.intro e (fun z => nomatch z) h
  | flt y => obtain ⟨t, q⟩ := (show ∃ t, u = Value.float y t from rx); cases q; exact PySem.W.kia_one PySem.W.kitx_float I.kIn True.intro e (fun z => nomatch z) h
  | @lst a xs ea =>
    cases (show u = Value.ref a from rx)
    obtain ⟨_, _, n, _, h1⟩ := (show ObjOk X.prog X.w H s.heap a (.lst xs) from I.hok a _ ea)
    exact PySem.W.kia_one PySem.W.kitx_list I.kIn ⟨_, h1, rfl⟩ e (fun z => nomatch z) h
  | @frz a ob xs ea =>
    cases (show u = Value.ref a from rx)
    obtain ⟨_, _, _, n, _, h1⟩ := (show ObjOk X.prog X.w H s.heap a (.frz ob (.lst xs)) from I.hok a _ ea)
    exact PySem.W.kia_one PySem.W.kitx_list I.kIn ⟨_, h1, rfl⟩ e (fun z => nomatch z) h
  | @tup a xs ea =>
    cases (show u = Value.ref a from rx)
    obtain ⟨_, _, _, p⟩ := (show ObjOk X.prog X.w H s.heap a (.tup xs) from I.hok a _ ea)
    obtain ⟨o, h1, h2, _⟩ := p
    exact PySem.W.kia_one PySem.W.kitx_tuple I.kIn ⟨o, h1, h2⟩ e (fun z => nomatch z) h
  | @dK a kvs ea =>
    cases (show u = Value.ref a from rx)
    obtain ⟨_, _, vs, _, p⟩ := (show ObjOk X.prog X.w H s.heap a (.dK kvs) from I.hok a _ ea)
    obtain ⟨o, es, ep, h1, h2, _⟩ := p
    exact PySem.W.kia_one PySem.W.kitx_dict I.kIn ⟨o, h1, h2.1⟩ e (fun z => nomatch z) h
  | @dT a kvs ea =>
    cases (show u = Value.ref a from rx)
    obtain ⟨_, _, xs, _, o, es, ep, h1, h2, _⟩ := (show ObjOk X.prog X.w H s.heap a (.dT kvs) from I.hok a _ ea)
    exact PySem.W.kia_one PySem.W.kitx_dict I.kIn ⟨o, h1, h2.1⟩ e (fun z => nomatch z) h
  | @ins a C dx fs ea cl ha hn htk hm =>
    cases (show u = Value.ref a from rx)
    obtain ⟨mA, O, _⟩ := ins_get I.hok ea
    obtain ⟨od, J, _⟩ := O.look
    exact PySem.W.kia_one (PySem.W.kitx_own (cl.get _) cl.hd ha hn htk hm) I.kIn J e (fun z => nomatch z) h
end
end L2
namespace L2
open PySem PySem.Spec PyProof.Rows
structure Room (k : Nat) (A : Around) : Prop where
  dp : A.depth + 3 * k + 5 < recursionLimit
  un : A.units + 16 * k + 200 < cLine
  hd : 200 ≤ k → A.handled = none
theorem Room.mono {j k : Nat} {A : Around} (r : Room k A) (h : j ≤ k) : Room j A := ⟨by have := r.dp; omega, by have := r.un; omega, fun z => r.hd (by omega)⟩
theorem Room.deeper {k : Nat} {A : Around} (r : Room (k + 1) A) (env : Env) : Room k (A.deeper env) :=
  ⟨by have := r.dp; show A.depth + 1 + 3 * k + 5 < _; omega, by have := r.un; show A.units + 3 + 16 * k + 200 < _; omega, fun z => r.hd (by omega)⟩
theorem Room.in1 {k : Nat} {A : Around} (r : Room (k + 1) A) : Room k A.in1 :=
  ⟨by have := r.dp; show A.depth + 3 * k + 5 < _; omega, by have := r.un; show A.units + 1 + 16 * k + 200 < _; omega, fun z => r.hd (by omega)⟩
theorem Room.depth {k : Nat} {A : Around} (r : Room k A) : A.depth < recursionLimit := by have := r.dp; omega
theorem Room.units {k : Nat} {A : Around} (r : Room k A) : A.units + 64 < cLine := by have := r.un; omega
def tNil : TA := fun _ H Q => Q [] H
def tCons (ta : TE) (tr : TA) : TA := fun σ H Q => ta σ H fun x H1 => tr σ H1 fun xs H2 => Q (x :: xs) H2
section
variable {X : Cx} {e : Expr} {es : List Expr} {te : TE} {t : TA} {pos : Pos}
theorem pa_nil : PA X [] tNil := fun _ _ _ _ H Q I h => Calls.spliced_nil ⟨[], H, I, .nil, h⟩
theorem pa_cons (ha : PE X e te) (hr : PA X es t) (hs : starEach (e :: es) X.env = (false, eval e X.env) :: starEach es X.env := by rfl) : PA X (e :: es) (tCons te t) := by
  intro pos pins s σ H Q I h
  rw [hs]
  show wpAny _ _ (spliced ((false, eval e X.env) :: backTo pos (starEach es X.env))) _ _ s
  refine Calls.spliced_cons (thn (ha pins s σ H _ I h) fun u s1 ⟨x, H1, I1, r1, q1⟩ => ?_)
  exact thn (hr pos pins s1 σ H1 _ I1 q1) fun us s2 ⟨xs, H2, I2, r2, q2⟩ => ⟨x :: xs, H2, I2, .cons r1 r2, q2⟩
def tTup (t : TA) : TE := fun σ H Q => t σ H fun xs H1 => xs.length ≤ sizeLine ∧ ∀ p, H1 p = none → Q (.ref p) (upd H1 p (.tup xs))
def tLst (t : TA) : TE := fun σ H Q => t σ H fun xs H1 => xs.length ≤ sizeLine ∧ ∀ p, H1 p = none → Q (.ref p) (upd H1 p (.lst xs))
theorem pe_tup {x1} (h : PA X es t) : PE X (.Tuple es x1 pos) (tTup t) := by
  intro pins s σ H Q I hq
  refine wpAny_Tuple_spliced (thn (h pos pins s σ H _ I hq) fun us s1 ⟨xs, H1, I1, r, z, q⟩ => ⟨by rw [← r.length]; exact z, ?_⟩)
  have hf : H1 s1.heap.objs.size = none := I1.hok.fresh (Nat.le_refl _)
  refine ⟨.ref s1.heap.objs.size, upd H1 s1.heap.objs.size (.tup xs), I1.laid (t' := s1.toks) (fun b u e => Heap.get?_push_of_some _ e) (Nat.le_refl _) ?_, rfl, q _ hf⟩
  exact ⟨z, us, r, ⟨_, Heap.get?_push_size _ rfl, rfl, _, rfl⟩⟩
theorem pe_lst (h : PA X es t) : PE X (.List es pos) (tLst t) := by
  intro pins s σ H Q I hq
  refine wpAny_List_spliced (thn (h pos pins s σ H _ I hq) fun us s1 ⟨xs, H1, I1, r, z, q⟩ => ⟨by rw [← r.length]; exact z, ?_⟩)
  have hf : H1 s1.heap.objs.size = none := I1.hok.fresh (Nat.le_refl _)
  refine ⟨.ref s1.heap.objs.size, upd H1 s1.heap.objs.size (.lst xs), I1.laid (t' := s1.toks) (fun b u e => Heap.get?_push_of_some _ e) (Nat.le_refl _) ?_, rfl, q _ hf⟩
  exact ⟨z, us, 0, r, Heap.get?_push_size _ rfl⟩
end
abbrev Sp := List V → Hp → VK → XK → Prop
abbrev CXT := Option Value → List Env → Hp → Shared → XK → Value → Shared → Prop
structure Env0 (P : Program) (w : World) (K : PySem.W.Frag) (mg : Str → Option Value) (base : Heap) (A : Around) (outer : List Env) (s : Shared) (H : Hp) : Prop where
  frames : A.frames = some outer
  mod : Mod K mg base
  bs : ∀ b o, base.get? b = some o → s.heap.get? b = some o ∧ H b = none
  bsz : base.objs.size ≤ s.heap.objs.size
  funs : s.heap.FunFrames base outer
  frf : ∀ b ∈ frs outer, H b = none
  hok : HOk P w H s.heap
  bare : AllBare s.gens
  hdl : HB base A
def CE (outer : List Env) (P : Program) (w : World) (H : Hp) (s : Shared) (Q : VK) (u : Value) (s' : Shared) : Prop :=
  ∃ v H', s'.os = s.os ∧ AllBare s'.gens ∧ Un (frs outer) [] H H' s.heap s'.heap ∧ HOk P w H' s'.heap ∧ RelV v u ∧ Q v H'
def CR (CX : CXT) (hh : Option Value) (outer : List Env) (P : Program) (w : World) (H : Hp) (s : Shared) (Q : VK) (E : XK) (r : Result) (s' : Shared) : Prop :=
  match r with
  | .ok (.ret u) => CE outer P w H s Q u s'
  | .ok _ => False
  | .error e => CX hh outer H s E e s'
structure FnOk (P : Program) (w : World) (K : PySem.W.Frag) (mg : Str → Option Value) (base : Heap) (CX : CXT) (k : Nat) (f : Addr) (fd : FuncData) (ps : List Str) (sp : Sp) : Prop where
  len : ∀ vs H Q E, sp vs H Q E → vs.length = ps.length
  run : ∀ (A : Around) (outer : List Env) (s : Shared) (H : Hp) (args : Args) (us : List Value) (vs : List V) (Q : VK) (E : XK), Room k A → Env0 P w K mg base A outer s H → BindsTo s fd args (ps.zip us) → Vals vs us → sp vs H Q E →
    codeAny (model P w) A (.call (.ref f) args) (CR CX A.handled outer P w H s Q E) s
theorem FnOk.mono {P : Program} {w : World} {K : PySem.W.Frag} {mg : Str → Option Value} {base : Heap} {CX : CXT} {j k : Nat} {f : Addr} {fd : FuncData} {ps : List Str} {sp : Sp} (F : FnOk P w K mg base CX j f fd ps sp) (h : j ≤ k) :
    FnOk P w K mg base CX k f fd ps sp := ⟨F.len, fun A outer s H args us vs Q E hr => F.run A outer s H args us vs Q E (hr.mono h)⟩
theorem Env0.in1 {P : Program} {w : World} {K : PySem.W.Frag} {mg : Str → Option Value} {base : Heap} {A : Around} {outer : List Env} {s : Shared} {H : Hp} (e : Env0 P w K mg base A outer s H) :
    Env0 P w K mg base A.in1 outer s H := ⟨e.frames, e.mod, e.bs, e.bsz, e.funs, e.frf, e.hok, e.bare, e.hdl⟩
section
variable {X : Cx} {pins : List (Addr × Obj)} {σ : St} {H : Hp} {s s' : Shared}
theorem Inv.after {Q : VK} {u : Value} (I : Inv X pins σ H s) (h : CE X.stack X.prog X.w H s Q u s') : EP X pins σ Q u s' := by
  obtain ⟨v, H', os, bare, un, hok, r, q⟩ := h
  obtain ⟨hh, g, d, t, os'⟩ := s'
  obtain rfl : os' = s.os := os
  exact ⟨v, H', I.call (h' := hh) (g' := g) (d' := d) (t' := t) (ch := []) un hok bare (fun b z => absurd z (by simp)), r, q⟩
end
def tCall (sp : Sp) (dvs : List V) (E : XK) (t : TA) : TE := fun σ H Q => t σ H fun vs H1 => sp (vs ++ dvs) H1 Q E
def Binds (K : PySem.W.Frag) (fd : FuncData) (ps : List Str) (ds : List Value) : Prop :=
  ∀ (s : Shared) (us : List Value), K.In s.heap → (us ++ ds).length = ps.length → BindsTo s fd ⟨us, []⟩ (ps.zip (us ++ ds))
theorem Binds.all {K : PySem.W.Frag} {fd : FuncData} {ps : List Str} (h : ∀ us : List Value, us.length = ps.length → bindArgs fd ⟨us, []⟩ = pure (ps.zip us)) : Binds K fd ps [] := fun s us _ hl => by
  rw [List.append_nil] at hl ⊢
  exact .of_eq (h us hl)
def Passes (CX : CXT) (X : Cx) (E : XK) : Prop := ∀ (pins : List (Addr × Obj)) (σ : St) (H : Hp) (s : Shared) (e : Value) (s' : Shared), Inv X pins σ H s → CX X.A.handled X.stack H s E e s' → X.xe e s'
section
variable {X : Cx} {CX : CXT} {k : Nat} {f C : Addr} {fd : FuncData} {ps : List Str} {sp : Sp} {dvs : List V} {ds : List Value} {E : XK} {x m : Str} {p pos apos : Pos} {e o : Expr} {es : List Expr} {ta : TE} {t : TA}
end
def PK (X : Cx) (kws : List Keyword) (t : TA) : Prop :=
  ∀ (pos : Pos) (pins : List (Addr × Obj)) (s : Shared) (σ : St) (H : Hp) (Q : List V → Hp → Prop), Inv X pins σ H s → t σ H Q → wpAny (model X.prog X.w) X.A (evalAll ((backToKw pos (keywordEach kws X.env)).map (·.2))) (AP X pins σ Q) X.xe s
section
variable {X : Cx} {CX : CXT} {k : Nat} {f C : Addr} {fd : FuncData} {ps ks : List Str} {sp : Sp} {E : XK} {x m : Str} {p pos apos kpos : Pos} {e o : Expr} {es : List Expr} {kws : List Keyword} {te ta : TE} {t tk : TA} {nm : Option Str}
end
structure FnScope (N P : List Str) (sc : Scope) : Prop where
  kind : sc.kind = .function
  co : sc.isCoroutine = false
  gen : sc.isGenerator = false
  nd : N.Nodup
  pre : N.take P.length = P
  par : ∀ x ∈ P, sc.names.lookup x = some .local ∨ sc.names.lookup x = some .cell
  nofree : ∀ y ∈ sc.names, y.2 ≠ .free
theorem bindL_out {kindOf : Str → Option NameKind} {x : Str} : ∀ {binds : List (Str × Value)} {m : Str → Option Value}, (∀ v, (x, v) ∉ binds) → bindL kindOf binds m x = m x
  | [], _, _ => rfl
  | (n, v) :: r, m, h => by
    unfold bindL
    rw [bindL_out fun w hw => h w (List.mem_cons_of_mem _ hw)]
    split
    · have : x ≠ n := by rintro rfl; exact h v List.mem_cons_self
      simp [this]
    · rfl
theorem bindC_out {kindOf : Str → Option NameKind} {x : Str} : ∀ {binds : List (Str × Value)} {m : Str → Option Value}, (∀ v, (x, v) ∉ binds) → bindC kindOf binds m x = m x
  | [], _, _ => rfl
  | (n, v) :: r, m, h => by
    unfold bindC
    rw [bindC_out fun w hw => h w (List.mem_cons_of_mem _ hw)]
    split
    · rfl
    · have : x ≠ n := by rintro rfl; exact h v List.mem_cons_self
      simp [this]
theorem bindL_get {kindOf : Str → Option NameKind} {x : Str} {v : Value} : ∀ {P : List Str} {vs : List Value} {i : Nat} {m : Str → Option Value}, P.Nodup → P[i]? = some x → vs[i]? = some v → kindOf x = some .local →
    bindL kindOf (P.zip vs) m x = some v
  | [], _, _, _, _, h, _, _ => by simp at h
  | _ :: _, [], _, _, _, _, h, _ => by simp at h
  | p :: P, w :: vs, 0, m, nd, h1, h2, hk => by
    simp at h1 h2; subst h1; subst h2
    show bindL kindOf ((p, w) :: P.zip vs) m p = _
    unfold bindL
    rw [bindL_out fun v hv => (List.nodup_cons.mp nd).1 (List.of_mem_zip hv).1, if_pos hk]
    simp
  | p :: P, w :: vs, i + 1, m, nd, h1, h2, hk => by
    show bindL kindOf ((p, w) :: P.zip vs) m x = _
    unfold bindL
    exact bindL_get (i := i) (List.nodup_cons.mp nd).2 (by simpa using h1) (by simpa using h2) hk
theorem bindC_get {kindOf : Str → Option NameKind} {x : Str} {v : Value} : ∀ {P : List Str} {vs : List Value} {i : Nat} {m : Str → Option Value}, P.Nodup → P[i]? = some x → vs[i]? = some v → kindOf x ≠ some .local →
    bindC kindOf (P.zip vs) m x = some v
  | [], _, _, _, _, h, _, _ => by simp at h
  | _ :: _, [], _, _, _, _, h, _ => by simp at h
  | p :: P, w :: vs, 0, m, nd, h1, h2, hk => by
    simp at h1 h2; subst h1; subst h2
    show bindC kindOf ((p, w) :: P.zip vs) m p = _
    unfold bindC
    rw [bindC_out fun v hv => (List.nodup_cons.mp nd).1 (List.of_mem_zip hv).1, if_neg hk]
    simp
  | p :: P, w :: vs, i + 1, m, nd, h1, h2, hk => by
    show bindC kindOf ((p, w) :: P.zip vs) m x = _
    unfold bindC
    exact bindC_get (i := i) (List.nodup_cons.mp nd).2 (by simpa using h1) (by simpa using h2) hk
def start (N : List Str) (vs : List V) : St := vs.map some ++ List.replicate (N.length - vs.length) none
def cxOf (CX : CXT) (P : Program) (w : World) (K : PySem.W.Frag) (mg : Str → Option Value) (base : Heap) (N : List Str) (qual : Str) (scope : Scope) (f : Addr) (cd : Value) (A : Around) (outer : List Env) (s : Shared) (H : Hp) (E : XK) : Cx where
  prog := P
  w := w
  K := K
  mg := mg
  base := base
  A := A.deeper (envOfC qual scope s.heap.objs.size f cd)
  N := N
  s₀ := s
  H₀ := H
  env := envOfC qual scope s.heap.objs.size f cd
  outer := outer
  stack := envOfC qual scope s.heap.objs.size f cd :: outer
  ex := []
  calm := true
  fn := fun _ => true
  pn := []
  xe := fun e s' => wpAny (model P w) (A.deeper (envOfC qual scope s.heap.objs.size f cd)) (leaving (envOfC qual scope s.heap.objs.size f cd) e) (fun _ s'' => CX A.handled outer H s E e s'') (fun e' s'' => CX A.handled outer H s E e' s'') s'
theorem cell_has {sc : Scope} {n : Nat} {x : Str} (h : sc.names.lookup x = some .cell) : ∃ c, (cellsFrom n sc.names []).lookup x = some c := by
  have q := PySem.W.cellsFrom_some sc.names n [] (.inl h)
  exact Option.isSome_iff_exists.mp q
theorem inv_start {CX : CXT} {P : Program} {w : World} {K : PySem.W.Frag} {mg : Str → Option Value} {base : Heap} {N ps : List Str} {qual : Str} {scope : Scope} {f : Addr} {cd : Value} {A : Around} {outer : List Env} {s s1 : Shared} {H : Hp} {E : XK} {us : List Value} {vs : List V}
    (S : FnScope N ps scope) (e0 : Env0 P w K mg base A outer s H) (hl : vs.length = ps.length) (r : Vals vs us)
    (x : InCallC s s.heap.objs.size (bindL (envOfC qual scope s.heap.objs.size f cd).kindOf (ps.zip us) fun _ => none) (cellsFrom (s.heap.objs.size + 1) scope.names []) (bindC (envOfC qual scope s.heap.objs.size f cd).kindOf (ps.zip us) fun _ => none) s1) :
    Inv (cxOf CX P w K mg base N qual scope f cd A outer s H E) [] (start N vs) H s1 := by
  have hpl : ps.length ≤ N.length := by have := congrArg List.length S.pre; rw [List.length_take] at this; omega
  obtain ⟨h1, tk, rfl, hk⟩ := x.done
  have noA : ∀ b : Addr, b ∉ (cxOf CX P w K mg base N qual scope f cd A outer s H E).ex := fun b z => absurd (show b ∈ ([] : List Addr) from z) (by simp)
  refine ⟨⟨e0.mod, S.kind, rfl, rfl, Nat.le_refl _, fun y z c h1 h2 => ?_, fun y hy => ?_, fun y c _ h => ?_, fun _ => e0.hdl.toP, Around.frames_deeper e0.frames, .inr ⟨rfl, rfl⟩, fun b z => absurd z (noA b), e0.bs, e0.bsz, fun b _ _ => noA b, fun b z => absurd z (noA b), e0.funs, e0.frf⟩,
    rfl, e0.bare, Un.kept hk, ⟨_, x.toInCall.ns, fun i y v h1 h2 h3 => ?_⟩, fun y c h => ⟨_, x.cell y c h⟩, e0.hok.fresh (Nat.le_refl _), fun y c h => ?_, fun p hp => absurd (show p ∈ ([] : List (Addr × Obj)) from hp) (by simp), e0.hok.kept hk, ?_⟩
  · exact name_of_addr x.apart (PySem.mem_of_lookup h1) (PySem.mem_of_lookup h2)
  · have hy : scope.names.lookup y = some .cell ∨ scope.names.lookup y = some .free := hy
    rcases hy with hy | hy
    · exact cell_has hy
    · exact absurd rfl (S.nofree _ (PySem.mem_of_lookup hy))
  · exact Nat.le_of_lt (x.above y c (PySem.mem_of_lookup h))
  · have hi : i < vs.length := by
      unfold start at h2
      by_cases hi : i < vs.length
      · exact hi
      · rw [List.getElem?_append_right (by simpa using hi)] at h2
        rw [List.getElem?_replicate] at h2
        split at h2 <;> cases h2
    have ha : vs[i]? = some v := by
      unfold start at h2
      rw [List.getElem?_append_left (by simpa using hi), List.getElem?_map] at h2
      cases e : vs[i]? with
      | none => rw [e] at h2; cases h2
      | some a => rw [e] at h2; cases h2; rfl
    obtain ⟨u, hu, rv⟩ := r.get ha
    have hp : ps[i]? = some y := by
      rw [← S.pre, List.getElem?_take_of_lt (by omega)]; exact h1
    have ndP : ps.Nodup := by rw [← S.pre]; exact S.nd.sublist (List.take_sublist _ _)
    refine ⟨u, rv, ?_⟩
    rcases S.par y (List.mem_of_getElem? hp) with k | k
    · exact .inl ⟨k, bindL_get ndP hp hu k⟩
    · obtain ⟨c, e⟩ := cell_has (n := s.heap.objs.size + 1) k
      refine .inr ⟨.inl k, c, e, ?_⟩
      have q := x.cell y c e
      rw [bindC_get ndP hp hu (by show scope.names.lookup y ≠ _; rw [k]; decide)] at q
      exact q
  · exact e0.hok.fresh (Nat.le_of_lt (x.above y c (PySem.mem_of_lookup h)))
  · unfold start
    show _ = N.length
    rw [List.length_append, List.length_map, List.length_replicate]
    omega
theorem fn_of {CX : CXT} {P : Program} {w : World} {K : PySem.W.Frag} {mg : Str → Option Value} {base : Heap} {k : Nat} {f : Addr} {name qual : Str} {params : Arguments} {body : List Stmt} {scope : Scope} {dV kV doc pm cdv ct oc : Value} {an od : Option Addr}
    {osl : Array (Option Value)} {N ps : List Str} {sp : Sp} (lk : K.lookup f = some ⟨oc, od, .func (PySem.W.fnOf name qual params body scope dV kV doc pm an cdv ct), osl⟩) (hcd : PySem.W.codeIn K cdv qual = true) (S : FnScope N ps scope)
    (len : ∀ vs H Q E, sp vs H Q E → vs.length = ps.length)
    (hbody : ∀ (A : Around) (outer : List Env) (s : Shared) (H : Hp) (vs : List V) (Q : VK) (E : XK), Room k (A.deeper (envOfC qual scope s.heap.objs.size f cdv)) → sp vs H Q E →
      ∃ t, PSs (cxOf CX P w K mg base N qual scope f cdv A outer s H E) body t ∧ t { nx := fun _ H' => Q .non H', rt := Q } (start N vs) H) :
    FnOk P w K mg base CX (k + 1) f (PySem.W.fnOf name qual params body scope dV kV doc pm an cdv ct) ps sp := by
  refine ⟨len, fun A outer s H args us vs Q E hr e0 hb r hsp => ?_⟩
  have hl := len _ _ _ _ hsp
  have KX : K.In s.heap := e0.mod.kin.keeps fun b o e => (e0.bs b o e).1
  have lim : s.heap.NoLimit := e0.mod.nolimit.keeps fun b o e => (e0.bs b o e).1
  have hkind : ∀ y ∈ ps.zip us, scope.names.lookup y.1 = some .local ∨ (scope.names.lookup y.1 = some .cell ∧ ((cellsFrom (s.heap.objs.size + 1) scope.names []).lookup y.1).isSome = true) := fun ⟨n, v⟩ hy => by
    rcases S.par n (List.of_mem_zip hy).1 with q | q
    · exact .inl q
    · exact .inr ⟨q, PySem.W.cellsFrom_some _ _ _ (.inl q)⟩
  refine codeAny_call_function hr.depth (KX _ _ lk) rfl S.co S.gen rfl (PySem.W.codeRec_of KX hcd) (hb _ _ _ _ ?_)
  refine wpAny_newFunctionEnv_cells S.kind hkind fun env he s1 x => ?_
  subst he
  refine ⟨lim.keeps x.toInCall.keep, codeAny_func ?_⟩
  obtain ⟨t, ht, hq⟩ := hbody A outer s H vs Q E (hr.deeper _) hsp
  have I : Inv (cxOf CX P w K mg base N qual scope f cdv A outer s H E) [] (start N vs) H s1 := inv_start S e0 hl r x
  refine wpAny_mono (ht [] s1 (start N vs) H _ I hq) (fun fl s' hs => ?_) fun e s' hs => hs
  have fin : ∀ {σ' : St} {H' : Hp} {v : V} {u : Value}, Inv (cxOf CX P w K mg base N qual scope f cdv A outer s H E) [] σ' H' s' → RelV v u → Q v H' → CE outer P w H s Q u s' :=
    fun {σ' H' v u} J rv q => ⟨v, H', J.os, J.bare, J.base, J.hok, rv, q⟩
  cases fl with
  | ret u =>
    obtain ⟨v, σ', H', J, rv, q⟩ := hs
    exact fin J rv q
  | next =>
    obtain ⟨σ', H', J, q⟩ := hs
    exact fin (v := V.non) (u := Value.none) J rfl q
  | brk =>
    obtain ⟨_, _, _, q⟩ := hs
    exact False.elim q
  | cont =>
    obtain ⟨_, _, _, q⟩ := hs
    exact False.elim q
end L2
namespace L2
open PySem PySem.Spec PyProof.Rows
section
variable {X : Cx} {x : Str} {p pos : Pos} {e : Expr} {es : List Expr} {t : TA} {id T : String} {r : List V → Hp → VK → Prop}
def tCB (r : List V → Hp → VK → Prop) (t : TA) : TE := fun σ H Q => t σ H fun vs H1 => r vs H1 Q
theorem pe_callB (hc : CallR X (.builtin id) r) (hg : Gl X x) (hm : X.mg x = none) (hv : bootBuiltins x = some (.builtin id)) (ha : PA X (e :: es) t) (hn : x ≠ "__name__" := by decide) (hdb : (x == ("__debug__" : Str)) = false := by decide)
    (he : starEach (e :: es) X.env = (false, eval e X.env) :: starEach es X.env := by rfl) (hpl : (backTo pos (starEach es X.env)).any (·.1) = false := by rfl) : PE X (.Call (.Name x p) (e :: es) [] pos) (tCB r t) := by
  intro pins s σ H Q I h
  refine wpAny_Call_Name_kw (ld_blt I hg hm hv ?_ hn hdb)
  exact PyProof.Rows.callWith_builtin1 (thn (ha pos pins s σ H _ I h) fun us s1 ⟨vs, H1, I1, r1, q1⟩ => hc pins s1 σ H1 vs us Q I1 r1 q1) he hpl
theorem pe_callTy (hc : CallR X (.type T) r) (hg : Gl X x) (hm : X.mg x = none) (hv : bootBuiltins x = some (.type T)) (ha : PA X (e :: es) t) (hn : x ≠ "__name__" := by decide) (hdb : (x == ("__debug__" : Str)) = false := by decide)
    (he : starEach (e :: es) X.env = (false, eval e X.env) :: starEach es X.env := by rfl) (hpl : (backTo pos (starEach es X.env)).any (·.1) = false := by rfl) : PE X (.Call (.Name x p) (e :: es) [] pos) (tCB r t) := by
  intro pins s σ H Q I h
  refine wpAny_Call_Name_kw (ld_blt I hg hm hv ?_ hn hdb)
  exact PyProof.Rows.callWith_type1 (thn (ha pos pins s σ H _ I h) fun us s1 ⟨vs, H1, I1, r1, q1⟩ => hc pins s1 σ H1 vs us Q I1 r1 q1) he hpl
end
end L2
namespace HT
open PySem PyProof.Rows
section
open PySem.SeqAt
open PySem.AutoSeq1 (wpAny_loadPart')
open PySem.MeetsSeq PySem.MeetsSeq2 PySem.MeetsSeq3
end
section
variable {prog : Program} {w : World} {A : Around} {E : Value → Shared → Prop} {s : Shared}
theorem cat_tup {t b : Addr} {vs ws : List Value} {Q : Value → Shared → Prop} (ht : IsTup s.heap t vs.toArray) (hb : IsTup s.heap b ws.toArray) (hv : vs ≠ [])
    (h1 : ws = [] → Q (.ref t) s) (h2 : ws ≠ [] → Q (.ref s.heap.objs.size) { s with heap := s.heap.push { cls := .type "tuple", data := .seq (vs ++ ws).toArray } })
    (hsz : vs.length + ws.length ≤ sizeLine) : wpAny (model prog w) A (binaryOp .Add (.ref t) (.ref b)) Q E s := by
  obtain ⟨⟨cls, dd, data, sl⟩, ho, hc, n, hd⟩ := id ht
  obtain ⟨⟨cls2, dd2, data2, sl2⟩, ho2, hc2, n2, hd2⟩ := id hb
  simp only at hc hd hc2 hd2
  subst hc hd hc2 hd2
  have e : vs.toArray ++ ws.toArray = (vs ++ ws).toArray := by simp
  by_cases hw : ws = []
  · exact concat_meets ⟨_, ho, rfl⟩ ⟨_, ho2, rfl⟩ noFill_tuple_add seq_tuple_add PySem.F.slot_tuple_add PySem.F.entry_tuple_add (PySem.F.args_tuple_add_2 _ _)
      (tuple_addW1 t b vs.toArray ws.toArray n n2 dd dd2 sl sl2 (by simpa using hv) (by simp [hw])) ⟨ho, ho2, h1 hw⟩
  · refine concat_meets ⟨_, ho, rfl⟩ ⟨_, ho2, rfl⟩ noFill_tuple_add seq_tuple_add PySem.F.slot_tuple_add PySem.F.entry_tuple_add (PySem.F.args_tuple_add_2 _ _)
      (tuple_addW2 t b vs.toArray ws.toArray n n2 dd dd2 sl sl2 (by simpa using hv) (by simpa using hw) (by rw [List.size_toArray, List.size_toArray]; exact hsz)) ⟨ho, ho2, ?_⟩
    rw [e]
    exact h2 hw
def sIx (n d : Nat) : Option Int → Nat
  | none => d
  | some v => if v < 0 then (v + (n : Int)).toNat else min v.toNat n
theorem sIx_none (n d : Nat) : sIx n d none = d := rfl
theorem sIx_nat (n d k : Nat) : sIx n d (some (k : Int)) = min k n := by
  show (if (k : Int) < 0 then ((k : Int) + (n : Int)).toNat else min (k : Int).toNat n) = min k n
  rw [if_neg (by omega), Int.toNat_natCast]
theorem sIx_le (n d : Nat) (hd : d ≤ n) (o : Option Int) : sIx n d o ≤ n := by
  cases o with
  | none => exact hd
  | some v =>
    show (if v < 0 then (v + (n : Int)).toNat else min v.toNat n) ≤ n
    by_cases hv : v < 0
    · rw [if_pos hv]; omega
    · rw [if_neg hv]; exact Nat.min_le_right _ _
theorem clip_eq (v : Int) (n d : Nat) : (if v < 0 then max (v + (n : Int)) 0 else min v (n : Int)) = ((sIx n d (some v) : Nat) : Int) := by
  show (if v < 0 then max (v + (n : Int)) 0 else min v (n : Int)) = (((if v < 0 then (v + (n : Int)).toNat else min v.toNat n) : Nat) : Int)
  by_cases hv : v < 0
  · simp only [if_pos hv]; omega
  · simp only [if_neg hv]; omega
theorem adjust_gen (lo hi : Option Int) (n : Nat) : Builtin.Slice.sliceAdjust lo hi 1 (n : Int) = (((sIx n 0 lo : Nat) : Int), ((sIx n n hi : Nat) : Int)) := by
  have h1 : ¬ ((1 : Int) < 0) := by omega
  unfold Builtin.Slice.sliceAdjust
  simp only [h1, if_false]
  refine Prod.ext ?_ ?_
  · cases lo with
    | none => rfl
    | some v => exact clip_eq v n 0
  · cases hi with
    | none => rfl
    | some v => exact clip_eq v n n
theorem places_gen (i j : Nat) : Builtin.Slice.slicePlaces (i : Int) (j : Int) 1 = j - i := by
  unfold Builtin.Slice.slicePlaces
  have h1 : (1 : Int) > 0 := by omega
  simp only [h1, if_true, Int.ediv_one]
  split <;> omega
theorem slicePart_ {v : Value} {o : Option Int} {Q : Option Int → Shared → Prop} (p : IsPart v o) (h : Q o s) : wpAny (model prog w) A (Builtin.Slice.slicePartIndex v) Q E s := by
  cases p with
  | none => exact slicePart_none h
  | int i t => exact slicePart_int h
theorem sliceApplied_gen {sl : Addr} {vl vu : Value} {lo hi : Option Int} {n : Nat} {Q : Int × Int × Nat → Shared → Prop} (hs : s.heap.IsSliceOf sl vl vu .none) (pl : IsPart vl lo) (pu : IsPart vu hi)
    (h : Q (((sIx n 0 lo : Nat) : Int), 1, sIx n n hi - sIx n 0 lo) s) : wpAny (model prog w) A (Builtin.Slice.sliceApplied (.ref sl) (pure (n : Int))) Q E s := by
  obtain ⟨os, hos, hcs, hds⟩ := id hs
  unfold Builtin.Slice.sliceApplied Builtin.Slice.sliceFields
  refine wpAny_bind (wpAny_bind (wpAny_field hos hds (x := vl) rfl (wpAny_bind (wpAny_field hos hds (x := vu) rfl (wpAny_bind (wpAny_field hos hds (x := .none) rfl (wpAny_pure ?_)))))))
  refine wpAny_bind (slicePart_none ?_)
  show wpAny _ _ (if ((1 : Int) == 0) = true then _ else _) _ _ s
  rw [if_neg (by decide)]
  refine wpAny_bind (slicePart_ pl (wpAny_bind (slicePart_ pu (wpAny_bind (wpAny_pure ?_)))))
  show wpAny _ _ (match Builtin.Slice.sliceAdjust lo hi 1 (n : Int) with | (lo, hi) => pure (lo, (1 : Int), Builtin.Slice.slicePlaces lo hi 1)) _ _ s
  rw [adjust_gen lo hi n]
  show wpAny _ _ (pure (((sIx n 0 lo : Nat) : Int), (1 : Int), Builtin.Slice.slicePlaces ((sIx n 0 lo : Nat) : Int) ((sIx n n hi : Nat) : Int) 1)) _ _ s
  rw [places_gen]
  exact wpAny_pure h
theorem pick_gen (xs : Array Value) (i k : Nat) : ((List.range k).filterMap fun (m : Nat) => xs[((i : Int) + (m : Int) * 1).toNat]?).toArray = ((xs.toList.drop i).take k).toArray := by
  have e : (fun (m : Nat) => xs[((i : Int) + (m : Int) * 1).toNat]?) = fun m => xs[i + m]? := by
    funext m
    have : ((i : Int) + (m : Int) * 1).toNat = i + m := by omega
    rw [this]
  rw [e]
  have := pick_run xs i k
  rw [List.filterMap_map] at this
  have e2 : ((fun x => xs[x]?) ∘ fun x => i + x) = fun m => xs[i + m]? := rfl
  rw [e2] at this
  rw [this]
theorem getItem_tuple_cut {t sl : Addr} {items : Array Value} {vl vu : Value} {lo hi : Option Int} {Q : Value → Shared → Prop} (ht : IsTup s.heap t items) (hs : s.heap.IsSliceOf sl vl vu .none) (pl : IsPart vl lo) (pu : IsPart vu hi)
    (hw : ¬ (sIx items.size 0 lo = 0 ∧ sIx items.size items.size hi = items.size))
    (h : Q (.ref s.heap.objs.size) { s with heap := s.heap.push { cls := .type "tuple", data := .seq ((items.toList.drop (sIx items.size 0 lo)).take (sIx items.size items.size hi - sIx items.size 0 lo)).toArray } })
    (hsz : items.size ≤ sizeLine) : wpAny (model prog w) A (getItem (.ref t) (.ref sl)) Q E s := by
  have htake : sizeOk (.seq ((items.toList.drop (sIx items.size 0 lo)).take (sIx items.size items.size hi - sIx items.size 0 lo)).toArray) := by
    show ((items.toList.drop (sIx items.size 0 lo)).take (sIx items.size items.size hi - sIx items.size 0 lo)).toArray.size ≤ sizeLine
    rw [List.size_toArray, List.length_take, List.length_drop, Array.length_toList]
    omega
  have hj : sIx items.size items.size hi ≤ items.size := sIx_le _ _ (Nat.le_refl _) hi
  obtain ⟨os, hos, hcs, hds⟩ := id hs
  have hTs : s.TypeIs (.ref sl) "slice" := ⟨os, hos, hcs⟩
  unfold getItem
  try with_reducible refine wpAny_holding ?_
  first | refine wpAny_bind (wpAny_pure ?_) | skip
  refine wpAny_bind (wpAny_sequenceKey ht.typeIs (by decide) ?_)
  refine wpAny_bind (wpAny_callSpecial?_slot (name := Str.ofString "__getitem__") ht.typeIs PyProof.Rows.slot_tuple_getitem
    (wpAny_call_entry PyProof.Rows.slot_tuple_getitem ht.typeIs entry_tuple_getitem ?_ (args_tuple_getitem _ _)))
  show wpAny _ _ (Builtin.Tuple.tupleItemsOf (.ref t) >>= _) _ _ s
  refine wpAny_bind (tupleItemsOf_ ht ?_)
  refine wpAny_bind (wpAny_typeOf hTs ?_)
  rw [if_pos (by decide)]
  refine wpAny_bind (sliceApplied_gen hs pl pu ?_)
  have hno : ¬ ((((sIx items.size 0 lo : Nat) : Int) == 0 && (1 : Int) == 1 && (sIx items.size items.size hi - sIx items.size 0 lo) == items.size) = true) := by
    intro q
    rw [Bool.and_eq_true, Bool.and_eq_true] at q
    have q1 : ((sIx items.size 0 lo : Nat) : Int) = 0 := eq_of_beq q.1.1
    have q2 : sIx items.size items.size hi - sIx items.size 0 lo = items.size := eq_of_beq q.2
    exact hw ⟨by omega, by omega⟩
  show wpAny _ _ (if (((sIx items.size 0 lo : Nat) : Int) == 0 && (1 : Int) == 1 && (sIx items.size items.size hi - sIx items.size 0 lo) == items.size) = true then _ else _) _ _ s
  rw [if_neg hno, pick_gen]
  first
    | exact wpAny_bind (m := Builtin.Tuple.tupleExact _) (wpAny_newObj_type (wpAny_pure ⟨_, rfl, wpAny_pure h⟩) htake)
    | exact wpAny_bind (m := Builtin.Tuple.tupleExact _) (wpAny_newObj_type (wpAny_bind (wpAny_pure (wpAny_pure ⟨_, rfl, wpAny_pure h⟩))) htake)
    | exact wpAny_bind (wpAny_bind (m := Builtin.Tuple.tupleExact _) (wpAny_newObj_type (wpAny_pure (wpAny_pure ⟨_, rfl, wpAny_pure h⟩)) htake))
    | exact wpAny_bind (wpAny_bind (m := Builtin.Tuple.tupleExact _) (wpAny_newObj_type (wpAny_pure ⟨_, rfl, wpAny_pure h⟩) htake))
end
end HT
namespace L2
open PySem PySem.Spec PyProof.Rows
abbrev TO := St → Hp → (Option Int → Hp → Prop) → Prop
def PO (X : Cx) (e : Option Expr) (t : TO) : Prop :=
  ∀ (pins : List (Addr × Obj)) (s : Shared) (σ : St) (H : Hp) (Q : Option Int → Hp → Prop), Inv X pins σ H s → t σ H Q →
    wpAny (model X.prog X.w) X.A (evalPart e X.env) (fun u s' => ∃ o H', Inv X pins σ H' s' ∧ IsPart u o ∧ Q o H') X.xe s
def tNoPart : TO := fun _ H Q => Q none H
def tPart (t : TE) : TO := fun σ H Q => t σ H fun x H1 => ∃ i, x = .int i ∧ Q (some i) H1
section
variable {X : Cx} {e : Expr} {te : TE} {lo hi : Option Expr} {tl th : TO} {pos p2 : Pos}
theorem po_none : PO X none tNoPart := by
  intro pins s σ H Q I h
  rw [evalPart_none]
  exact wpAny_pure ⟨none, H, I, .none, h⟩
theorem po_some (h : PE X e te) : PO X (some e) (tPart te) := by
  intro pins s σ H Q I hw
  rw [evalPart_some]
  refine thn (h pins s σ H _ I hw) fun u s1 ⟨x, H1, I1, r1, q1⟩ => ?_
  obtain ⟨i, rfl, q⟩ := q1
  obtain ⟨t, rfl⟩ := r1
  exact ⟨some i, H1, I1, .int i t, q⟩
def SlR (X : Cx) (r : V → Option Int → Option Int → Hp → VK → Prop) : Prop :=
  ∀ (pins : List (Addr × Obj)) (s : Shared) (σ : St) (H : Hp) (x : V) (v vl vu : Value) (lo hi : Option Int) (sl : Addr) (Q : VK), Inv X pins σ H s → RelV x v → s.heap.IsSliceOf sl vl vu .none → IsPart vl lo → IsPart vu hi → r x lo hi H Q →
    ∃ T id, typeLookup (.type T) "__getitem__" = pure (some (.builtin id)) ∧ s.TypeIs v T ∧ wpAny (model X.prog X.w) X.A (getItem v (.ref sl)) (EP X pins σ Q) X.xe s
def tSl (r : V → Option Int → Option Int → Hp → VK → Prop) (te : TE) (tl th : TO) : TE := fun σ H Q => te σ H fun x H1 => tl σ H1 fun l H2 => th σ H2 fun u H3 => r x l u H3 Q
theorem pe_slice {r : V → Option Int → Option Int → Hp → VK → Prop} (hr : SlR X r) (he : PE X e te) (hl : PO X lo tl) (hu : PO X hi th) : PE X (.Subscript e (.Slice lo hi none p2) pos) (tSl r te tl th) := by
  intro pins s σ H Q I h
  refine Subscript_ (thn (he pins s σ H _ I h) fun v s1 ⟨x, H1, I1, r1, q1⟩ => ?_)
  refine wpAny_Slice (thn (hl pins s1 σ H1 _ I1 q1) fun vl s2 ⟨l, H2, I2, pl, q2⟩ => thn (hu pins s2 σ H2 _ I2 q2) fun vu s3 ⟨u, H3, I3, pu, q3⟩ => ?_)
  rw [evalPart_none]
  refine wpAny_pure ?_
  have I4 : Inv X pins σ H3 { s3 with heap := s3.heap.push { cls := .type "slice", data := .fields #[vl, vu, .none] } } := I3.kept (t' := s3.toks) fun b ob q => Heap.get?_push_of_some _ q
  obtain ⟨T, id, hT, ht, hg⟩ := hr pins { s3 with heap := s3.heap.push { cls := .type "slice", data := .fields #[vl, vu, .none] } } σ H3 x v vl vu l u s3.heap.objs.size Q I4 r1 (Heap.IsSliceOf.new ..) pl pu q3
  show wpAny (model X.prog X.w) X.A (subscriptTail e (.Slice lo hi none p2) v (.ref s3.heap.objs.size)) (EP X pins σ Q) X.xe { s3 with heap := s3.heap.push { cls := .type "slice", data := .fields #[vl, vu, .none] } }
  exact tail_any (ops := [.ref s3.heap.objs.size, v]) ht hT hg (by with_unfolding_all rfl)
def cutV (xs : List V) (lo hi : Option Int) : List V := (xs.drop (HT.sIx xs.length 0 lo)).take (HT.sIx xs.length xs.length hi - HT.sIx xs.length 0 lo)
theorem cutV_length (xs : List V) (lo hi : Option Int) : (cutV xs lo hi).length ≤ xs.length := by
  unfold cutV
  rw [List.length_take, List.length_drop]
  omega
def rSlT (K : PySem.W.Frag) : V → Option Int → Option Int → Hp → VK → Prop := fun x lo hi H Q => ∃ a xs, x = .ref a ∧ SqT K H a xs ∧
  ¬ (HT.sIx xs.length 0 lo = 0 ∧ HT.sIx xs.length xs.length hi = xs.length) ∧ ∀ p, H p = none → Q (.ref p) (upd H p (.tup (cutV xs lo hi)))
theorem sl_tup : SlR X (rSlT X.K) := by
  intro pins s σ H x v vl vu lo hi sl Q I rx hs pl pu h
  obtain ⟨a, xs, rfl, hx, hw, q⟩ := h
  cases rx
  obtain ⟨its, r, ht, hz⟩ := I.tuple hx
  have hlen : its.toArray.size = xs.length := by rw [List.size_toArray]; exact r.length.symm
  refine ⟨"tuple", _, PyProof.Rows.slot_tuple_getitem.lookup, ht.typeIs, ?_⟩
  refine HT.getItem_tuple_cut ht hs pl pu (by rw [hlen]; exact hw) ?_ (by rw [hlen]; exact hz)
  rw [hlen]
  refine ⟨.ref s.heap.objs.size, _, I.laid (t' := s.toks) (o := .tup (cutV xs lo hi)) (fun b ob q => Heap.get?_push_of_some _ q) (Nat.le_refl _) ?_, rfl, q _ (I.hok.fresh (Nat.le_refl _))⟩
  exact ⟨Nat.le_trans (cutV_length xs lo hi) hz, _, (r.drop (HT.sIx xs.length 0 lo)).take (HT.sIx xs.length xs.length hi - HT.sIx xs.length 0 lo), IsTup.new _ _⟩
def rCatT (K : PySem.W.Frag) : R2 := fun x y H Q => ∃ a b xs ys, x = .ref a ∧ y = .ref b ∧ SqT K H a xs ∧ SqT K H b ys ∧ xs ≠ [] ∧ xs.length + ys.length ≤ sizeLine ∧
  (ys = [] → Q (.ref a) H) ∧ (ys ≠ [] → ∀ p, H p = none → Q (.ref p) (upd H p (.tup (xs ++ ys))))
theorem Vals.nil_iff {xs : List V} {us : List Value} (r : Vals xs us) : us = [] ↔ xs = [] := by
  cases r with
  | nil => simp
  | cons _ _ => simp
theorem op_catT : OpR X (binaryOp .Add) (rCatT X.K) := by
  intro pins s σ H x y v u Q I rx ry h
  obtain ⟨a, b, xs, ys, rfl, rfl, ha, hb, hx, hz, q1, q2⟩ := h
  cases rx
  cases ry
  obtain ⟨its, r1, p1, _⟩ := I.tuple ha
  obtain ⟨its2, r2, p2, _⟩ := I.tuple hb
  refine HT.cat_tup p1 p2 (fun z => hx (r1.nil_iff.mp z)) (fun z => ⟨.ref a, H, I, rfl, q1 (r2.nil_iff.mp z)⟩) (fun z => ?_) (by rw [← r1.length, ← r2.length]; exact hz)
  refine ⟨.ref s.heap.objs.size, _, I.laid (t' := s.toks) (o := .tup (xs ++ ys)) (fun b ob q => Heap.get?_push_of_some _ q) (Nat.le_refl _) ?_, rfl, q2 (fun w => z (r2.nil_iff.mpr w)) _ (I.hok.fresh (Nat.le_refl _))⟩
  exact ⟨by rw [List.length_append]; exact hz, _, r1.append r2, IsTup.new _ _⟩
end
end L2
namespace L2
open PySem PySem.Spec PyProof.Rows
def ixN (n : Nat) (i : Int) : Option Nat := if 0 ≤ i then (if i < n then some i.toNat else none) else if -(n : Int) ≤ i then some (i + n).toNat else none
def atI {α : Type} (xs : List α) (i : Int) : Option α := (ixN xs.length i).bind fun j => xs[j]?
theorem ixN_seq {n : Nat} {i : Int} {j : Nat} (h : ixN n i = some j) : seqIndex? i n = some j ∧ j < n ∧ -(n : Int) ≤ i ∧ i < n := by
  unfold ixN at h
  by_cases h0 : 0 ≤ i
  · rw [if_pos h0] at h
    by_cases h1 : i < n
    · rw [if_pos h1] at h
      have e : i.toNat = j := Option.some.inj h
      exact ⟨by rw [seqIndex_of h0 h1, e], by omega, by omega, h1⟩
    · rw [if_neg h1] at h; cases h
  · rw [if_neg h0] at h
    by_cases h1 : -(n : Int) ≤ i
    · rw [if_pos h1] at h
      have e : (i + n).toNat = j := Option.some.inj h
      exact ⟨by rw [seqIndex_neg (by omega) h1, e], by omega, h1, by omega⟩
    · rw [if_neg h1] at h; cases h
theorem atI_get {α : Type} {xs : List α} {i : Int} {v : α} (h : atI xs i = some v) : ∃ j, seqIndex? i xs.length = some j ∧ xs[j]? = some v ∧ j < xs.length ∧ -(xs.length : Int) ≤ i ∧ i < xs.length := by
  unfold atI at h
  cases e : ixN xs.length i with
  | none => rw [e] at h; cases h
  | some j =>
    rw [e] at h
    obtain ⟨h1, h2, h3, h4⟩ := ixN_seq e
    exact ⟨j, h1, h, h2, h3, h4⟩
theorem atI_nat {α : Type} {xs : List α} {j : Nat} {v : α} (h : xs[j]? = some v) : atI xs (j : Int) = some v := by
  have hj : j < xs.length := (List.getElem?_eq_some_iff.mp h).1
  have e : ixN xs.length (j : Int) = some j := by
    unfold ixN
    rw [if_pos (by omega), if_pos (by omega)]; simp
  unfold atI; rw [e]; exact h
def PlainIx (b : Expr) : Prop := ∀ o i, subscripted b false o i = operate [o, i] (getItem o i)
def IxR (X : Cx) (r : R2) : Prop :=
  ∀ (value slice : Expr) (pins : List (Addr × Obj)) (s : Shared) (σ : St) (H : Hp) (x y : V) (v u : Value) (Q : VK), Inv X pins σ H s → RelV x v → RelV y u → r x y H Q →
    subscripted slice false v u = operate [v, u] (getItem v u) → wpAny (model X.prog X.w) X.A (subscriptTail value slice v u) (EP X pins σ Q) X.xe s
def MtR (X : Cx) (id : String) (r : V → List V → Hp → VK → Prop) : Prop :=
  ∀ (pins : List (Addr × Obj)) (s : Shared) (σ : St) (H : Hp) (x : V) (xs : List V) (v : Value) (us : List Value) (Q : VK), Inv X pins σ H s → RelV x v → Vals xs us → r x xs H Q →
    wpAny (model X.prog X.w) X.A (call (.builtin id) (v :: us)) (EP X pins σ Q) X.xe s
section
variable {X : Cx} {a b : Expr} {ta tb : TE} {pos : Pos}
theorem pe_ix {r : R2} (hr : IxR X r) (ha : PE X a ta) (hb : PE X b tb) (hs : PlainIx b) : PE X (.Subscript a b pos) (tOp r ta tb) := by
  intro pins s σ H Q I h
  exact Subscript_ (binT ha hb I h fun v u s2 x y H2 I2 rx ry q => hr a b pins s2 σ H2 x y v u Q I2 rx ry q (hs _ _))
def rIxL (K : PySem.W.Frag) : R2 := fun x y H Q => ∃ p xs i v, x = .ref p ∧ y = .int i ∧ SqL K H p xs ∧ atI xs i = some v ∧ Q v H
def rIxT (K : PySem.W.Frag) : R2 := fun x y H Q => ∃ p xs i v, x = .ref p ∧ y = .int i ∧ SqT K H p xs ∧ atI xs i = some v ∧ Q v H
def rIxS : R2 := fun x y H Q => ∃ z i c, x = .str z ∧ y = .int i ∧ z.length ≤ sizeLine ∧ atI z.cps.toList i = some c ∧ Q (.str ⟨#[c]⟩) H
theorem ix_list : IxR X (rIxL X.K) := by
  intro value slice pins s σ H x y v u Q I rx ry h hs
  obtain ⟨p, xs, i, z, rfl, rfl, hq, he, q⟩ := h
  cases rx
  obtain ⟨t, rfl⟩ := ry
  obtain ⟨its, r, pl, hz⟩ := I.list hq
  obtain ⟨j, h1, h2, h3, h4, h5⟩ := atI_get he
  obtain ⟨w, ew, rw'⟩ := r.get h2
  have hl := r.length
  have hn := line63
  have fin : EP X pins σ Q w s := ⟨z, H, I, rw', q⟩
  by_cases h0 : 0 ≤ i
  · have hj : i.toNat = j := by
      rw [seqIndex_of h0 h5] at h1
      exact Option.some.inj h1
    exact item_listR pl.isList h0 (by omega) (by rw [hj]; simpa using ew) fin hs
  · have hj : (i + (its.toArray.size : Int)).toNat = j := by
      rw [seqIndex_neg (by omega) h4] at h1
      rw [List.size_toArray, ← hl]
      exact Option.some.inj h1
    exact subscriptTail_builtinR (x := w) pl.isList.typeIs slot_list_getitem.lookup
      (wpAny_getItem_list_neg (Q := fun r s' => r = w ∧ EP X pins σ Q r s') pl.isList (by omega) (by rw [List.size_toArray] <;> omega) (by omega) (by rw [hj]; simpa using ew) ⟨rfl, fin⟩) hs
theorem ix_tup : IxR X (rIxT X.K) := by
  intro value slice pins s σ H x y v u Q I rx ry h hs
  obtain ⟨p, xs, i, z, rfl, rfl, hq, he, q⟩ := h
  cases rx
  obtain ⟨t, rfl⟩ := ry
  obtain ⟨its, r, pl, hz⟩ := I.tuple hq
  obtain ⟨j, h1, h2, h3, h4, h5⟩ := atI_get he
  obtain ⟨w, ew, rw'⟩ := r.get h2
  have hl := r.length
  have hn := line63
  have fin : EP X pins σ Q w s := ⟨z, H, I, rw', q⟩
  exact subscriptTail_builtinR (x := w) pl.typeIs slot_tuple_getitem.lookup
    (getItem_tuple (j := j) (Q := fun r s' => r = w ∧ EP X pins σ Q r s') pl (by omega) (by omega) (by rw [List.size_toArray, ← hl]; exact h1) (by simpa using ew) ⟨rfl, fin⟩) hs
theorem ix_str : IxR X rIxS := by
  intro value slice pins s σ H x y v u Q I rx ry h hs
  obtain ⟨z, i, c, rfl, rfl, hz, he, q⟩ := h
  obtain ⟨t, rfl⟩ := rx
  obtain ⟨t', rfl⟩ := ry
  obtain ⟨j, h1, h2, h3, h4, h5⟩ := atI_get he
  have hl : z.cps.toList.length = z.length := by simp [Str.length]
  rw [hl] at h1 h4 h5
  have hn := line63
  exact tail_any (typeIs_str s z t) slot_str_getitem.lookup (getItem_str (c := c) (by
    have e1 : decide (i < -(2 ^ 63 : Int)) = false := decide_eq_false (by omega)
    have e2 : decide (i ≥ 2 ^ 63) = false := decide_eq_false (by omega)
    rw [e1, e2, Bool.or_false]) (by rw [h1]; simpa using h2) ⟨.str ⟨#[c]⟩, H, I.tok _, ⟨_, rfl⟩, q⟩) hs
theorem mapSeq_set (its : List Value) (n j : Nat) (u : Value) : Obj.mapSeq (·.setIfInBounds j u) { cls := .type "list", data := .seq its.toArray n } = { cls := .type "list", data := .seq (its.set j u).toArray n } := by
  simp [Obj.mapSeq]
theorem Inv.lst {pins : List (Addr × Obj)} {σ : St} {H : Hp} {s : Shared} {p : Addr} {xs : List V} (I : Inv X pins σ H s) (h : H p = some (.lst xs)) :
    ∃ (its : List Value) (n : Nat), Vals xs its ∧ s.heap.get? p = some { cls := .type "list", data := .seq its.toArray n } ∧ xs.length ≤ sizeLine := by
  obtain ⟨z, its, n, r, e⟩ := I.hok p _ h
  exact ⟨its, n, r, e, z⟩
theorem Inv.lstUpd {pins : List (Addr × Obj)} {σ : St} {H : Hp} {s : Shared} {p : Addr} {xs ys : List V} {its its' : List Value} {n n' : Nat} {f : Obj → Obj} (I : Inv X pins σ H s) (h : H p = some (.lst xs))
    (ho : s.heap.get? p = some { cls := .type "list", data := .seq its.toArray n }) (hf : f { cls := .type "list", data := .seq its.toArray n } = { cls := .type "list", data := .seq its'.toArray n' }) (r : Vals ys its') (hz : ys.length ≤ sizeLine) (t : Nat) :
    Inv X pins σ (upd H p (.lst ys)) { s with heap := s.heap.update p f, toks := t } := by
  have e : (s.heap.update p f).get? p = some { cls := .type "list", data := .seq its'.toArray n' } := by
    rw [Heap.get?_update_self f ho (by rw [hf] <;> rfl), hf]
  refine I.write (x := p) (e := p) (by rw [h]; trivial) (.inl rfl) (fun b u hb q => (Heap.get?_update_other _ _ (Ne.symm hb)).trans q) ⟨_, e⟩ ?_
  exact ⟨hz, its', n', r, e⟩
def rSetL : V → V → V → Hp → (Hp → Prop) → Prop := fun o i v H Q => ∃ p xs k j, o = .ref p ∧ i = .int k ∧ H p = some (.lst xs) ∧ ixN xs.length k = some j ∧ Q (upd H p (.lst (xs.set j v)))
theorem set_list : PSet X rSetL := by
  intro pins s σ H o i v ov iv u Q I ro ri rv h
  obtain ⟨p, xs, k, j, rfl, rfl, hp, hj, q⟩ := h
  cases ro
  obtain ⟨t, rfl⟩ := ri
  obtain ⟨its, n, r, ho, hz⟩ := I.lst hp
  obtain ⟨h1, h2, h3, h4⟩ := ixN_seq hj
  have hl := r.length
  have hn := line63
  have I' : Inv X pins σ (upd H p (.lst (xs.set j v))) { s with heap := s.heap.update p (Obj.mapSeq (·.setIfInBounds j u)) } :=
    I.lstUpd hp ho (mapSeq_set its n j u) (r.set rv j) (by rw [List.length_set]; exact hz) s.toks
  by_cases h0 : 0 ≤ k
  · have hk : k.toNat = j := by
      rw [seqIndex_of h0 h4] at h1
      exact Option.some.inj h1
    exact PySem.W.ki_setAt ho h0 (by omega) (by rw [List.size_toArray, ← hl]; exact h4) (by rw [hk]; exact ⟨_, I', q⟩)
  · have hk : (k + (its.toArray.size : Int)).toNat = j := by
      rw [seqIndex_neg (by omega) h3] at h1
      rw [List.size_toArray, ← hl]
      exact Option.some.inj h1
    exact PySem.W.ki_setBack ho (by omega) (by rw [List.size_toArray, ← hl]; exact h3) (by omega) (by rw [hk]; exact ⟨_, I', q⟩)
theorem slice_bounds (lo hi : Option Int) (n : Nat) : (sliceBounds lo hi none n).1 = ((HT.sIx n 0 lo : Nat) : Int) ∧ (sliceBounds lo hi none n).2.1 = ((HT.sIx n n hi : Nat) : Int) ∧ (sliceBounds lo hi none n).2.2 = 1 := by
  refine ⟨?_, ?_, rfl⟩
  · cases lo with
    | none => simp [sliceBounds, HT.sIx]
    | some i =>
      simp only [sliceBounds, HT.sIx, Option.getD_none, show (1 : Int) > 0 by decide, if_true]
      by_cases h : i < 0
      · simp only [h, if_true] <;> omega
      · simp only [h, if_false] <;> omega
  · cases hi with
    | none => simp [sliceBounds, HT.sIx]
    | some i =>
      simp only [sliceBounds, HT.sIx, Option.getD_none, show (1 : Int) > 0 by decide, if_true]
      by_cases h : i < 0
      · simp only [h, if_true] <;> omega
      · simp only [h, if_false] <;> omega
theorem slicePick_cut (its : List Value) (lo hi : Option Int) : slicePick its.toArray lo hi none = ((its.drop (HT.sIx its.length 0 lo)).take (HT.sIx its.length its.length hi - HT.sIx its.length 0 lo)).toArray := by
  obtain ⟨h1, h2, h3⟩ := slice_bounds lo hi its.toArray.size
  unfold slicePick
  rw [h1, h2, h3]
  simp only [sliceRange_one, pick_run, List.size_toArray] <;> rfl
def rSlL (K : PySem.W.Frag) : V → Option Int → Option Int → Hp → VK → Prop := fun x lo hi H Q => ∃ a xs, x = .ref a ∧ SqL K H a xs ∧ ∀ p, H p = none → Q (.ref p) (upd H p (.lst (cutV xs lo hi)))
theorem sl_list : SlR X (rSlL X.K) := by
  intro pins s σ H x v vl vu lo hi sl Q I rx hs pl pu h
  obtain ⟨a, xs, rfl, hx, q⟩ := h
  cases rx
  obtain ⟨its, r, ht, hz⟩ := I.list hx
  have hlen := r.length
  refine ⟨"list", _, slot_list_getitem.lookup, ht.isList.typeIs, ?_⟩
  refine wpAny_getItem_list_slice ht.isList hs pl pu .none (by simp) ?_ (by rw [List.size_toArray] <;> omega)
  rw [slicePick_cut, ← hlen]
  refine ⟨.ref s.heap.objs.size, _, I.laid (t' := s.toks) (o := .lst (cutV xs lo hi)) (fun b ob q => Heap.get?_push_of_some _ q) (Nat.le_refl _) ?_, rfl, q _ (I.hok.fresh (Nat.le_refl _))⟩
  exact ⟨Nat.le_trans (cutV_length xs lo hi) hz, _, 0, (r.drop (HT.sIx xs.length 0 lo)).take (HT.sIx xs.length xs.length hi - HT.sIx xs.length 0 lo), Heap.get?_push_size _ rfl⟩
def flatV : V → Bool
  | .non => true
  | .bl _ => true
  | .int _ => true
  | .str _ => true
  | _ => false
def eqV : V → V → Bool
  | .non, .non => true
  | .bl a, .bl b => a == b
  | .bl a, .int b => (if a then 1 else 0) == b
  | .int a, .bl b => a == (if b then 1 else 0)
  | .int a, .int b => a == b
  | .str a, .str b => a == b
  | _, _ => false
theorem eqAt_V {A : Around} {s : Shared} {y x : V} {u v : Value} (ry : RelV y u) (rx : RelV x v) (fy : flatV y = true) (fx : flatV x = true) : SeqAt.EqAt A s u v (eqV y x) := by
  cases y with
  | non =>
    cases ry
    cases x with
    | non => cases rx; exact SeqAt.EqAt.same _
    | bl b => cases rx; exact SeqAt.EqAt.none_bool b
    | int b => obtain ⟨t, rfl⟩ := rx; exact SeqAt.EqAt.none_int b t
    | str b => obtain ⟨t, rfl⟩ := rx; exact SeqAt.EqAt.none_str b t
    | _ => exact absurd (show false = true from fx) Bool.false_ne_true
  | bl a =>
    cases ry
    cases x with
    | non => cases rx; exact SeqAt.EqAt.bool_none a
    | bl b => cases rx; exact SeqAt.EqAt.bool_bool a b
    | int b => obtain ⟨t, rfl⟩ := rx; exact SeqAt.EqAt.bool_int a b t
    | str b => obtain ⟨t, rfl⟩ := rx; exact SeqAt.EqAt.bool_str a b t
    | _ => exact absurd (show false = true from fx) Bool.false_ne_true
  | int a =>
    obtain ⟨t', rfl⟩ := ry
    cases x with
    | non => cases rx; exact SeqAt.EqAt.int_none a t'
    | bl b => cases rx; exact SeqAt.EqAt.int_bool a t' b
    | int b => obtain ⟨t, rfl⟩ := rx; exact SeqAt.EqAt.int_int a t' b t
    | str b => obtain ⟨t, rfl⟩ := rx; exact SeqAt.EqAt.int_str a t' b t
    | _ => exact absurd (show false = true from fx) Bool.false_ne_true
  | str a =>
    obtain ⟨t', rfl⟩ := ry
    cases x with
    | non => cases rx; exact SeqAt.EqAt.str_none a t'
    | bl b => cases rx; exact SeqAt.EqAt.str_bool a t' b
    | int b => obtain ⟨t, rfl⟩ := rx; exact SeqAt.EqAt.str_int a t' b t
    | str b => obtain ⟨t, rfl⟩ := rx; exact SeqAt.EqAt.str_str a t' b t
    | _ => exact absurd (show false = true from fx) Bool.false_ne_true
  | _ => exact absurd (show false = true from fy) Bool.false_ne_true
def eqU (x : V) (u : Value) : Bool := match u with
  | .none => eqV .non x
  | .bool b => eqV (.bl b) x
  | .int i _ => eqV (.int i) x
  | .str z _ => eqV (.str z) x
  | _ => false
theorem eqU_of {x y : V} {u : Value} (r : RelV y u) (f : flatV y = true) : eqU x u = eqV y x := by
  cases y with
  | non => cases r; rfl
  | bl b => cases r; rfl
  | int i => obtain ⟨t, rfl⟩ := r; rfl
  | str z => obtain ⟨t, rfl⟩ := r; rfl
  | _ => exact absurd (show false = true from f) Bool.false_ne_true
theorem any_eqU {x : V} : ∀ {xs : List V} {us : List Value}, Vals xs us → xs.all flatV = true → us.any (eqU x) = xs.any fun y => eqV y x
  | _, _, .nil, _ => rfl
  | y :: xs, u :: us, .cons r t, f => by
    rw [List.all_cons, Bool.and_eq_true] at f
    rw [List.any_cons, List.any_cons, eqU_of r f.1, any_eqU t f.2]
theorem mem_eqAt {A : Around} {s : Shared} {x : V} {v : Value} (rx : RelV x v) (fx : flatV x = true) : ∀ {xs : List V} {us : List Value}, Vals xs us → xs.all flatV = true → ∀ u ∈ us, SeqAt.EqAt A s u v (eqU x u)
  | _, _, .nil, _ => fun u hu => by cases hu
  | y :: xs, u :: us, .cons r t, f => fun u' hu => by
    rw [List.all_cons, Bool.and_eq_true] at f
    rcases List.mem_cons.mp hu with rfl | hu
    · rw [eqU_of r f.1]; exact eqAt_V r rx f.1 fx
    · exact mem_eqAt rx fx t f.2 u' hu
def inV (x : V) (xs : List V) : Bool := xs.any fun y => eqV y x
def rIn (K : PySem.W.Frag) (neg : Bool) : R2 := fun x y H Q => ∃ p xs, y = .ref p ∧ (SqL K H p xs ∨ SqT K H p xs) ∧ flatV x = true ∧ xs.all flatV = true ∧ Q (.bl (if neg then !inV x xs else inV x xs)) H
theorem op_in_seq : OpR X (compareOp .In) (rIn X.K false) := by
  intro pins s σ H x y v u Q I rx ry h
  obtain ⟨p, xs, rfl, hq, fx, fs, q⟩ := h
  cases ry
  rcases hq with hq | hq
  · obtain ⟨its, r, pl, hz⟩ := I.list hq
    refine SeqAt.in_listAt (eqU x) pl.isList (fun w hw => mem_eqAt rx fx r fs w (by simpa using hw)) ⟨.bl _, H, I, rfl, ?_⟩
    rw [show its.toArray.any (eqU x) = its.any (eqU x) by simp, any_eqU r fs]
    exact q
  · obtain ⟨its, r, pl, hz⟩ := I.tuple hq
    refine SeqAt.in_tupleAt (eqU x) pl (fun w hw => mem_eqAt rx fx r fs w (by simpa using hw)) ⟨.bl _, H, I, rfl, ?_⟩
    rw [show its.toArray.any (eqU x) = its.any (eqU x) by simp, any_eqU r fs]
    exact q
theorem call_len_seq : CallR X (.builtin "len") (fun xs H Q => ∃ p ys, xs = [.ref p] ∧ (SqL X.K H p ys ∨ SqT X.K H p ys) ∧ Q (.int ys.length) H) := by
  intro pins s σ H xs us Q I r h
  obtain ⟨p, ys, rfl, hq, q⟩ := h
  obtain ⟨u, rfl, rx⟩ := vals1 r
  cases rx
  have hn := line63
  rcases hq with hq | hq
  · obtain ⟨its, r', pl, hz⟩ := I.list hq
    have hlen := r'.length
    exact Calls.call_len_list pl.isList (by simp only [List.size_toArray] <;> omega) ⟨.int ys.length, H, I.tok _, ⟨s.toks + 1, by rw [List.size_toArray, hlen]⟩, q⟩
  · obtain ⟨its, r', pl, hz⟩ := I.tuple hq
    have hlen := r'.length
    exact len_tuple pl (by simp only [List.size_toArray] <;> omega) ⟨.int ys.length, H, I.tok _, ⟨s.toks + 1, by rw [List.size_toArray, hlen]⟩, q⟩
theorem call_list_of : CallR X (.type "list") (fun xs H Q => ∃ p ys, xs = [.ref p] ∧ (SqL X.K H p ys ∨ SqT X.K H p ys) ∧ ∀ l, H l = none → Q (.ref l) (upd H l (.lst ys))) := by
  intro pins s σ H xs us Q I r h
  obtain ⟨p, ys, rfl, hq, q⟩ := h
  obtain ⟨u, rfl, rx⟩ := vals1 r
  cases rx
  have fin : ∀ (its : List Value), Vals ys its → ys.length ≤ sizeLine → ∀ (h' : Heap) (c' : Nat), (∀ b o', s.heap.get? b = some o' → h'.get? b = some o') →
      h'.get? s.heap.objs.size = some { cls := .type "list", dict := none, data := .seq its.toArray c', slots := #[] } → EP X pins σ Q (.ref s.heap.objs.size) { s with heap := h' } := fun its r' hz h' c' kp e =>
    ⟨.ref s.heap.objs.size, _, I.laid (t' := s.toks) kp (Nat.le_refl _) (show ObjOk X.prog X.w _ h' _ (.lst ys) from ⟨hz, its, c', r', e⟩), rfl, q _ (I.hok.fresh (Nat.le_refl _))⟩
  rcases hq with hq | hq
  · obtain ⟨its, r', pl, hz⟩ := I.list hq
    have hlen := r'.length
    obtain ⟨o, ho, hc, n, hd⟩ := pl.isList
    exact call_list_seq p (.inl rfl) ho hc hd (fun h' c' kp e => fin its r' hz h' c' kp e) (by simp only [List.size_toArray] <;> omega)
  · obtain ⟨its, r', pl, hz⟩ := I.tuple hq
    have hlen := r'.length
    obtain ⟨o, ho, hc, n, hd⟩ := pl
    exact call_list_seq p (.inr rfl) ho hc hd (fun h' c' kp e => fin its r' hz h' c' kp e) (by simp only [List.size_toArray] <;> omega)
def tyV (K : PySem.W.Frag) (T : String) (x : V) (H : Hp) : Prop := match x with
  | .str _ => T = "str"
  | .int _ => T = "int"
  | .ref p => (T = "list" ∧ ∃ xs, SqL K H p xs) ∨ (T = "tuple" ∧ ∃ o, K.lookup p = some o ∧ o.cls = .type "tuple" ∧ o.dict = none) ∨
      (T = "dict" ∧ ((∃ kvs, H p = some (.dK kvs)) ∨ ∃ kvs, H p = some (.dT kvs))) ∨ (T = "set" ∧ ∃ S n, H p = some (.set S n))
  | _ => False
theorem tyV_is {pins : List (Addr × Obj)} {σ : St} {H : Hp} {s : Shared} {T : String} {x : V} {v : Value} (I : Inv X pins σ H s) (r : RelV x v) (ty : tyV X.K T x H) :
    s.TypeIs v T ∧ ∀ a, v = .ref a → ∃ ob, s.heap.get? a = some ob ∧ ob.dict = none := by
  cases x with
  | str z =>
    obtain ⟨t, rfl⟩ := r
    cases (show T = "str" from ty)
    exact ⟨typeIs_str s z t, fun _ e => nomatch e⟩
  | int i =>
    obtain ⟨t, rfl⟩ := r
    cases (show T = "int" from ty)
    exact ⟨typeIs_int s i t, fun _ e => nomatch e⟩
  | ref p =>
    cases r
    rcases ty with ⟨rfl, xs, hq⟩ | ⟨rfl, o, hk, hc, hd⟩ | ⟨rfl, hk⟩ | ⟨rfl, S, n, hk⟩
    · obtain ⟨its, _, pl, _⟩ := I.list hq
      refine ⟨pl.isList.typeIs, fun a e => ?_⟩
      cases e
      obtain ⟨o, n, e, c, hd, _⟩ := pl
      exact ⟨o, e, hd⟩
    · refine ⟨⟨o, I.kIn p o hk, hc⟩, fun a e => ?_⟩
      cases e
      exact ⟨o, I.kIn _ o hk, hd⟩
    · have z : ∃ o, s.heap.get? p = some o ∧ o.ExactDict := by
        rcases hk with ⟨kvs, hk⟩ | ⟨kvs, hk⟩
        · obtain ⟨_, _, _, _, o, _, _, e, ex, _⟩ := I.hok p _ hk
          exact ⟨o, e, ex⟩
        · obtain ⟨_, _, _, _, o, _, _, e, ex, _⟩ := I.hok p _ hk
          exact ⟨o, e, ex⟩
      obtain ⟨o, e, ex⟩ := z
      refine ⟨⟨o, e, ex.1⟩, fun a e2 => ?_⟩
      cases e2
      exact ⟨o, e, ex.2.1⟩
    · obtain ⟨o, _, _, _, e, ex, _⟩ := I.hok p _ hk
      refine ⟨⟨o, e, ex.1⟩, fun a e2 => ?_⟩
      cases e2
      exact ⟨o, e, ex.2.1⟩
  | _ => exact False.elim ty
def tBM0 (K : PySem.W.Frag) (T : String) (r : V → List V → Hp → VK → Prop) (to : TE) : TE := fun σ H Q => to σ H fun x H1 => tyV K T x H1 ∧ r x [] H1 Q
def tBM (K : PySem.W.Frag) (T : String) (r : V → List V → Hp → VK → Prop) (to : TE) (t : TA) : TE := fun σ H Q => to σ H fun x H1 => tyV K T x H1 ∧ t σ H1 fun xs H2 => r x xs H2 Q
variable {o e : Expr} {es : List Expr} {to : TE} {t : TA} {name : Str} {apos cpos : Pos} {T id : String} {r : V → List V → Hp → VK → Prop}
theorem pe_bm0 (pa : PlainAttrs T) (slot : Slot T name id) (hty : typeOf (.builtin id) = pure (.type "method_descriptor")) (hm : MtR X id r) (ho : PE X o to)
    (hbase : attributeBase o name X.env (eval o X.env) = eval o X.env := by rfl) (hline : (apos.endLine == cpos.line) = true := by rfl) : PE X (.Call (.Attribute o name apos) [] [] cpos) (tBM0 X.K T r to) := by
  intro pins s σ H Q I h
  refine wpAny_Call_method0_late hbase hline (thn (ho pins s σ H _ I h) fun v s1 ⟨x, H1, I1, r1, ty, q1⟩ => ?_)
  obtain ⟨h1, h2⟩ := tyV_is I1 r1 ty
  exact ⟨T, id, pa, slot, hty, h1, h2, Calls.callWith_builtin rfl (PySem.evalArgs_none (hm pins s1 σ H1 x [] v [] Q I1 r1 .nil q1))⟩
theorem pe_bm (pa : PlainAttrs T) (slot : Slot T name id) (hty : typeOf (.builtin id) = pure (.type "method_descriptor")) (hm : MtR X id r) (ho : PE X o to) (ha : PA X (e :: es) t)
    (hbase : attributeBase o name X.env (eval o X.env) = eval o X.env := by rfl)
    (hfew : ((backTo cpos (starEach (e :: es) X.env)).all (fun x => !x.1) && (backToKw cpos (keywordEach [] X.env)).all (fun x => x.1.isSome)
      && decide ((e :: es).length + ([] : List Keyword).length + (if ([] : List Keyword).isEmpty then 0 else 1) < 30)) = true := by rfl)
    (hline : (apos.endLine == cpos.line) = true := by rfl) (hs : starEach (e :: es) X.env = (false, eval e X.env) :: starEach es X.env := by rfl) (hplain : (backTo cpos (starEach es X.env)).any (·.1) = false := by rfl) :
    PE X (.Call (.Attribute o name apos) (e :: es) [] cpos) (tBM X.K T r to t) := by
  intro pins s σ H Q I h
  refine wpAny_Call_method_late hbase hfew hline rfl (thn (ho pins s σ H _ I h) fun v s1 ⟨x, H1, I1, r1, ty, q1⟩ => ?_)
  obtain ⟨h1, h2⟩ := tyV_is I1 r1 ty
  refine ⟨T, id, pa, slot, hty, h1, h2, ?_⟩
  have hA := ha cpos pins s1 σ H1 _ I1 q1
  rw [hs] at hA ⊢
  refine Calls.callWith_builtin (by show (false || (backTo cpos (starEach es X.env)).any (·.1)) = false; rw [hplain] <;> rfl) (Calls.evalArgs_plain ?_)
  exact thn hA fun us s2 ⟨vs, H2, I2, r2, q2⟩ => hm pins s2 σ H2 x vs v us Q I2 r1 r2 q2
end
end L2
namespace L2
open PySem PySem.Spec PyProof.Rows
def MtM (X : Cx) (id : String) (r : V → List V → Hp → VK → Prop) : Prop :=
  ∀ (pins : List (Addr × Obj)) (s : Shared) (σ : St) (H : Hp) (x : V) (xs : List V) (v : Value) (us : List Value) (Q : VK), Inv X pins σ H s → RelV x v → Vals xs us → r x xs H Q →
    wpAny (model X.prog X.w) X.A (call (.builtin id) (v :: us)) (EP X pins σ Q) X.xe s
theorem Vals.one : ∀ {x : V} {us : List Value}, Vals [x] us → ∃ u, us = [u] ∧ RelV x u
  | _, _, .cons r .nil => ⟨_, rfl, r⟩
theorem Vals.two : ∀ {x y : V} {us : List Value}, Vals [x, y] us → ∃ u v, us = [u, v] ∧ RelV x u ∧ RelV y v
  | _, _, _, .cons r (.cons q .nil) => ⟨_, _, rfl, r, q⟩
theorem Vals.zero : ∀ {us : List Value}, Vals [] us → us = []
  | _, .nil => rfl
theorem Vals.dropLast {xs : List V} {us : List Value} (h : Vals xs us) : Vals xs.dropLast us.dropLast := by
  induction h with
  | nil => exact .nil
  | cons r t ih =>
    cases t with
    | nil => exact .nil
    | cons q t' => exact .cons r ih
theorem Vals.eraseIdx : ∀ {xs : List V} {us : List Value} (i : Nat), Vals xs us → Vals (xs.eraseIdx i) (us.eraseIdx i)
  | _, _, _, .nil => .nil
  | _, _, 0, .cons _ t => t
  | _, _, i + 1, .cons r t => .cons r (Vals.eraseIdx i t)
theorem Vals.reverse {xs : List V} {us : List Value} (h : Vals xs us) : Vals xs.reverse us.reverse := by
  induction h with
  | nil => exact .nil
  | cons r t ih => rw [List.reverse_cons, List.reverse_cons]; exact Vals.append ih (.cons r .nil)
theorem Vals.rep {xs : List V} {us : List Value} (h : Vals xs us) : ∀ k : Nat, Vals (List.replicate k xs).flatten (List.replicate k us).flatten
  | 0 => .nil
  | k + 1 => by
    rw [List.replicate_succ, List.replicate_succ, List.flatten_cons, List.flatten_cons]
    exact Vals.append h (Vals.rep h k)
theorem erase_last {α : Type} (l : List α) : l.eraseIdx (l.length - 1) = l.dropLast := by
  induction l with
  | nil => rfl
  | cons a r ih =>
    cases r with
    | nil => rfl
    | cons b r =>
      have e : (a :: b :: r).length - 1 = ((b :: r).length - 1) + 1 := by
        have h1 : (a :: b :: r).length = r.length + 2 := rfl
        have h2 : (b :: r).length = r.length + 1 := rfl
        omega
      rw [e, List.eraseIdx_cons_succ, ih]
      all_goals rfl
section
variable {X : Cx} {pins : List (Addr × Obj)} {σ : St} {H : Hp} {s : Shared} {l b : Addr} {xs ys zs : List V}
theorem Inv.lset {its its' : List Value} {n : Nat} {f : Array Value → Array Value} {t' : Nat} (I : Inv X pins σ H s) (hH : H l = some (.lst xs))
    (e : s.heap.get? l = some { cls := .type "list", data := .seq its.toArray n }) (hf : f its.toArray = its'.toArray) (hv : Vals ys its') (hz : ys.length ≤ sizeLine) :
    Inv X pins σ (upd H l (.lst ys)) { s with heap := s.heap.update l (Obj.mapSeq f), toks := t' } := by
  have q := PySem.IsL.update e f
  rw [hf] at q
  refine I.write (x := l) (e := l) (by rw [hH]; exact trivial) (.inl rfl) (fun b' u hb hu => (Heap.get?_update_other s.heap (Obj.mapSeq f) (Ne.symm hb)).trans hu) ⟨_, q⟩ ?_
  exact ⟨hz, its', _, hv, q⟩
theorem Inv.lnew {its : List Value} {t' : Nat} (I : Inv X pins σ H s) (hv : Vals ys its) (hz : ys.length ≤ sizeLine) :
    Inv X pins σ (upd H s.heap.objs.size (.lst ys)) { s with heap := s.heap.push { cls := .type "list", data := .seq its.toArray }, toks := t' } :=
  I.laid (fun _ _ q => Heap.get?_push_of_some _ q) (Nat.le_refl _) ⟨hz, its, 0, hv, Heap.get?_push_size _ rfl⟩
theorem Inv.fresh (I : Inv X pins σ H s) : H s.heap.objs.size = none := I.hok.fresh (Nat.le_refl _)
theorem Inv.lstM (I : Inv X pins σ H s) (hH : H l = some (.lst xs)) : xs.length ≤ sizeLine ∧ ∃ (its : List Value) (n : Nat), Vals xs its ∧ xs.length = its.length ∧ s.heap.get? l = some { cls := .type "list", data := .seq its.toArray n } := by
  obtain ⟨z, its, n, r, e⟩ := I.hok l _ hH
  exact ⟨z, its, n, r, r.length, e⟩
end
section
variable {X : Cx}
def rAppend : V → List V → Hp → VK → Prop := fun x vs H Q => ∃ l xs y, x = .ref l ∧ vs = [y] ∧ H l = some (.lst xs) ∧ xs.length < sizeLine ∧ Q .non (upd H l (.lst (xs ++ [y])))
theorem mt_append : MtM X "list.append" rAppend := by
  intro pins s σ H x vs v us Q I rx rv h
  obtain ⟨l, xs, y, rfl, rfl, hH, hz, q⟩ := h
  cases rx
  obtain ⟨u, rfl, ru⟩ := rv.one
  obtain ⟨z, its, n, r, hl, e⟩ := I.lstM hH
  refine call_meets F.slot_list_append ⟨_, e, rfl⟩ F.entry_list_append (F.args_list_append_2 _ _) (PySem.list_append l its.toArray n u (by rw [List.size_toArray]; omega)) ⟨e, ?_⟩
  refine ⟨.non, _, I.lset (its' := its ++ [u]) hH e (by simp) (r.append (.cons ru .nil)) ?_, rfl, q⟩
  rw [List.length_append, List.length_singleton]
  omega
def rPop : V → List V → Hp → VK → Prop := fun x vs H Q => ∃ l xs y, x = .ref l ∧ vs = [] ∧ H l = some (.lst xs) ∧ xs[xs.length - 1]? = some y ∧ Q y (upd H l (.lst xs.dropLast))
theorem mt_pop : MtM X "list.pop" rPop := by
  intro pins s σ H x vs v us Q I rx rv h
  obtain ⟨l, xs, y, rfl, rfl, hH, hy, q⟩ := h
  cases rx
  have hus := rv.zero
  subst hus
  obtain ⟨z, its, n, r, hl, e⟩ := I.lstM hH
  obtain ⟨u, hu, ru⟩ := r.get hy
  have hy' : its.toArray[its.toArray.size - 1]? = some u := by
    show its.toArray[its.length - 1]? = some u
    rw [← Array.getElem?_toList, ← hl]
    exact hu
  refine call_meets F.slot_list_pop ⟨_, e, rfl⟩ F.entry_list_pop (F.args_list_pop_1 _) (MeetsSeq.list_pop_last l its.toArray n u hy' (by rw [List.size_toArray]; omega)) ⟨e, ?_⟩
  refine ⟨y, _, I.lset (its' := its.dropLast) hH e ?_ r.dropLast ?_, ru, q⟩
  · show its.toArray.eraseIdxIfInBounds (its.toArray.size - 1) = its.dropLast.toArray
    rw [List.size_toArray, List.eraseIdxIfInBounds_toArray, erase_last]
  · rw [List.length_dropLast]
    omega
end
section
variable {prog : Program} {w : World} {A : Around} {E : Value → Shared → Prop} {s : Shared}
end
section
variable {X : Cx}
end
end L2
namespace L2
open PySem PySem.Spec PyProof.Rows
section
variable {κ : Type} [DecidableEq κ]
def valV (kvs : List (κ × V)) (k : κ) : Option V := (kvs.find? fun kv => decide (kv.1 = k)).map (·.2)
def putK (kvs : List (κ × V)) (k : κ) (v : V) : List (κ × V) :=
  if (kvs.any fun kv => decide (kv.1 = k)) = true then kvs.map (fun kv => if kv.1 = k then (kv.1, v) else kv) else kvs ++ [(k, v)]
def dropK (kvs : List (κ × V)) (k : κ) : List (κ × V) := kvs.filter fun kv => decide (kv.1 ≠ k)
theorem valV_pos {p : κ × V} {r : List (κ × V)} {k : κ} (e : p.1 = k) : valV (p :: r) k = some p.2 := by simp [valV, List.find?_cons, e]
theorem valV_neg {p : κ × V} {r : List (κ × V)} {k : κ} (e : ¬ p.1 = k) : valV (p :: r) k = valV r k := by simp [valV, List.find?_cons, e]
theorem valV_any (k : κ) : ∀ kvs : List (κ × V), (kvs.any fun kv => decide (kv.1 = k)) = (valV kvs k).isSome
  | [] => rfl
  | p :: r => by
    rw [List.any_cons]
    by_cases e : p.1 = k
    · simp only [valV_pos e, decide_eq_true e, Bool.true_or, Option.isSome_some]
    · rw [valV_neg e, decide_eq_false e, Bool.false_or]; exact valV_any k r
theorem valV_map (k j : κ) (y : V) : ∀ kvs : List (κ × V), valV (kvs.map fun kv => if kv.1 = k then (kv.1, y) else kv) j = (valV kvs j).map fun x => if j = k then y else x
  | [] => rfl
  | p :: r => by
    have ih := valV_map k j y r
    rw [List.map_cons]
    by_cases h : p.1 = k
    · rw [if_pos h]
      by_cases e : p.1 = j
      · rw [valV_pos (p := (p.1, y)) e, valV_pos e, Option.map_some, if_pos (e.symm.trans h)]
      · rw [valV_neg (p := (p.1, y)) e, valV_neg e, ih]
    · rw [if_neg h]
      by_cases e : p.1 = j
      · rw [valV_pos (p := p) e, valV_pos e, Option.map_some, if_neg (fun z => h (e.trans z))]
      · rw [valV_neg (p := p) e, valV_neg e, ih]
theorem valV_snoc (k j : κ) (y : V) : ∀ kvs : List (κ × V), valV kvs k = none → valV (kvs ++ [(k, y)]) j = if j = k then some y else valV kvs j
  | [], _ => by
    by_cases e : k = j
    · rw [if_pos e.symm]; exact valV_pos (p := (k, y)) e
    · rw [if_neg (fun z => e z.symm)]; exact valV_neg (p := (k, y)) e
  | p :: r, hn => by
    rw [List.cons_append]
    have hk : ¬ p.1 = k := fun z => by rw [valV_pos z] at hn; cases hn
    rw [valV_neg hk] at hn
    have ih := valV_snoc k j y r hn
    by_cases e : p.1 = j
    · rw [valV_pos e, valV_pos e, if_neg (fun z => hk (e.trans z))]
    · rw [valV_neg e, valV_neg e, ih]
theorem valV_put (kvs : List (κ × V)) (k j : κ) (y : V) : valV (putK kvs k y) j = if j = k then some y else valV kvs j := by
  unfold putK
  by_cases a : (kvs.any fun kv => decide (kv.1 = k)) = true
  · rw [if_pos a, valV_map]
    rw [valV_any] at a
    by_cases e : j = k
    · obtain ⟨x, hx⟩ := Option.isSome_iff_exists.mp a
      rw [if_pos e, e, hx, Option.map_some, if_pos rfl]
    · rw [if_neg e]
      cases valV kvs j with
      | none => rfl
      | some x => rw [Option.map_some, if_neg e]
  · rw [if_neg a]
    refine valV_snoc k j y kvs ?_
    rw [valV_any] at a
    cases q : valV kvs k with
    | none => rfl
    | some x => rw [q] at a; exact (a rfl).elim
theorem length_putK (kvs : List (κ × V)) (k : κ) (v : V) : (putK kvs k v).length ≤ kvs.length + 1 := by
  unfold putK
  split
  · rw [List.length_map]; omega
  · rw [List.length_append, List.length_cons, List.length_nil]; omega
theorem RelO.isSome_eq {o : Option V} {u : Option Value} (r : RelO o u) : o.isSome = u.isSome := by
  cases o with
  | none => cases u with
    | none => rfl
    | some _ => exact (show False from r).elim
  | some _ => cases u with
    | none => exact (show False from r).elim
    | some _ => rfl
theorem RelO.getD {o : Option V} {u : Option Value} {d : V} {d' : Value} (r : RelO o u) (rd : RelV d d') : RelV (o.getD d) (u.getD d') := by
  cases o with
  | none => cases u with
    | none => exact rd
    | some _ => exact (show False from r).elim
  | some _ => cases u with
    | none => exact (show False from r).elim
    | some _ => exact r
theorem KV.val {kvs : List (κ × V)} {vs : List (κ × Value)} (r : KV kvs vs) (k : κ) : RelO (valV kvs k) (valueAt vs k) := by
  unfold KV at r
  induction r with
  | nil => exact True.intro
  | @cons p q ps qs h t ih =>
    obtain ⟨h1, h2⟩ := h
    by_cases e : p.1 = k
    · have e' : q.1 = k := h1.symm.trans e
      have b : valueAt (q :: qs) k = some q.2 := by simp [valueAt, List.find?_cons, e']
      rw [valV_pos e, b]; exact h2
    · have e' : ¬ q.1 = k := fun z => e (h1.trans z)
      have b : valueAt (q :: qs) k = valueAt qs k := by simp [valueAt, List.find?_cons, e']
      rw [valV_neg e, b]; exact ih
theorem KV.any {kvs : List (κ × V)} {vs : List (κ × Value)} (r : KV kvs vs) (k : κ) : (kvs.any fun kv => decide (kv.1 = k)) = vs.any fun kv => decide (kv.1 = k) := by
  unfold KV at r
  induction r with
  | nil => rfl
  | cons h t ih => rw [List.any_cons, List.any_cons, ih, h.1]
theorem KV.repl {kvs : List (κ × V)} {vs : List (κ × Value)} (r : KV kvs vs) (k : κ) {y : V} {u : Value} (ry : RelV y u) :
    KV (kvs.map fun kv => if kv.1 = k then (kv.1, y) else kv) (vs.map fun kv => if kv.1 = k then (kv.1, u) else kv) := by
  unfold KV at r ⊢
  induction r with
  | nil => exact .nil
  | @cons p q ps qs h t ih =>
    rw [List.map_cons, List.map_cons]
    refine .cons ?_ ih
    obtain ⟨h1, h2⟩ := h
    by_cases e : p.1 = k
    · rw [if_pos e, if_pos (h1.symm.trans e)]; exact ⟨h1, ry⟩
    · rw [if_neg e, if_neg (fun z => e (h1.trans z))]; exact ⟨h1, h2⟩
theorem KV.put {kvs : List (κ × V)} {vs : List (κ × Value)} (r : KV kvs vs) (k : κ) {y : V} {u : Value} (ry : RelV y u) : KV (putK kvs k y) (stored vs k u) := by
  unfold putK stored
  rw [r.any k]
  by_cases e : (vs.any fun kv => decide (kv.1 = k)) = true
  · rw [if_pos e, if_pos e]; exact r.repl k ry
  · rw [if_neg e, if_neg e]; exact Paired.snoc r ⟨rfl, ry⟩
theorem KV.drop {kvs : List (κ × V)} {vs : List (κ × Value)} (r : KV kvs vs) (k : κ) : KV (dropK kvs k) (without vs k) := by
  unfold KV at r ⊢
  unfold dropK without
  induction r with
  | nil => exact .nil
  | @cons p q ps qs h t ih =>
    obtain ⟨h1, h2⟩ := h
    rw [List.filter_cons, List.filter_cons]
    by_cases e : p.1 = k
    · have a : ¬ decide (p.1 ≠ k) = true := by simp [e]
      have b : ¬ decide (q.1 ≠ k) = true := by simp [h1.symm.trans e]
      rw [if_neg a, if_neg b]; exact ih
    · have e' : ¬ q.1 = k := fun z => e (h1.trans z)
      have a : decide (p.1 ≠ k) = true := by simp [e]
      have b : decide (q.1 ≠ k) = true := by simp [e']
      rw [if_pos a, if_pos b]; exact .cons ⟨h1, h2⟩ ih
theorem KV.keys {kvs : List (κ × V)} {vs : List (κ × Value)} (r : KV kvs vs) : kvs.map (·.1) = vs.map (·.1) := by
  unfold KV at r
  induction r with
  | nil => rfl
  | cons h t ih => rw [List.map_cons, List.map_cons, ih, h.1]
theorem KV.length {kvs : List (κ × V)} {vs : List (κ × Value)} (r : KV kvs vs) : kvs.length = vs.length := Paired.length r
end
theorem kV_is {P : Program} {w : World} {k : Key} {u : Value} (r : RelV (kV k) u) : (mixKind P w).is k u = true := by
  cases k with
  | inl i => obtain ⟨t, e⟩ := (show ∃ t, u = Value.int i t from r); subst e; exact mixKind_int P w i t
  | inr x => obtain ⟨t, e⟩ := (show ∃ t, u = Value.str x t from r); subst e; exact mixKind_str P w x t
theorem items_are {P : Program} {w : World} : ∀ {ks : List Key} {us : List Value}, Vals (ks.map kV) us → ItemsAre (mixKind P w) ks us
  | [], _, r => by rw [List.map_nil] at r; cases r; exact .nil
  | k :: ks, _, r => by
    rw [List.map_cons] at r
    cases r with
    | cons h t => exact .cons (kV_is h) (items_are t)
abbrev KT (H : Hp) : List (List Key × V) → List (List Key × Addr × Value) → Prop := Paired fun p q => p.1 = q.1 ∧ H q.2.1 = some (.tup (p.1.map kV)) ∧ RelV p.2 q.2.2
theorem KT.val {H : Hp} {kvs : List (List Key × V)} {xs : List (List Key × Addr × Value)} (r : KT H kvs xs) (k : List Key) : RelO (valV kvs k) ((atKey xs k).map (·.2)) := by
  induction r with
  | nil => exact True.intro
  | @cons p q ps qs h t ih =>
    obtain ⟨h1, _, h2⟩ := h
    by_cases e : p.1 = k
    · have e' : q.1 = k := h1.symm.trans e
      have b : atKey (q :: qs) k = some q.2 := by simp [atKey, List.find?_cons, e']
      rw [valV_pos e, b]; exact h2
    · have e' : ¬ q.1 = k := fun z => e (h1.trans z)
      have b : atKey (q :: qs) k = atKey qs k := by simp [atKey, List.find?_cons, e']
      rw [valV_neg e, b]; exact ih
theorem KT.repl {H : Hp} {kvs : List (List Key × V)} {xs : List (List Key × Addr × Value)} (r : KT H kvs xs) (k : List Key) {y : V} {u : Value} (ry : RelV y u) :
    KT H (kvs.map fun kv => if kv.1 = k then (kv.1, y) else kv) (xs.map (putAt k u)) := by
  induction r with
  | nil => exact .nil
  | @cons p q ps qs h t ih =>
    rw [List.map_cons, List.map_cons]
    refine .cons ?_ ih
    obtain ⟨h1, h2, h3⟩ := h
    unfold putAt
    by_cases e : p.1 = k
    · rw [if_pos e, if_pos (h1.symm.trans e)]; exact ⟨h1, h2, ry⟩
    · rw [if_neg e, if_neg (fun z => e (h1.trans z))]; exact ⟨h1, h2, h3⟩
theorem KT.put {H : Hp} {kvs : List (List Key × V)} {xs : List (List Key × Addr × Value)} (r : KT H kvs xs) (k : List Key) {b : Addr} {y : V} {u : Value} (hb : H b = some (.tup (k.map kV))) (ry : RelV y u) :
    KT H (putK kvs k y) (storedH xs k b u) := by
  have e : (kvs.any fun kv => decide (kv.1 = k)) = (atKey xs k).isSome := by
    rw [valV_any, (r.val k).isSome_eq, Option.isSome_map]
  unfold putK storedH
  rw [e]
  by_cases q : (atKey xs k).isSome = true
  · rw [if_pos q, if_pos q]; exact r.repl k ry
  · rw [if_neg q, if_neg q]; exact Paired.snoc r ⟨rfl, hb, ry⟩
theorem KT.keeps {H H' : Hp} {kvs : List (List Key × V)} {xs : List (List Key × Addr × Value)} (r : KT H kvs xs) (ht : ∀ b ys, H b = some (.tup ys) → H' b = some (.tup ys)) : KT H' kvs xs :=
  Paired.mapP r fun _ _ z => ⟨z.1, ht _ _ z.2.1, z.2.2⟩
section
variable {P : Program} {w : World} {H : Hp} {h : Heap} {a : Addr}
theorem rd_of {u : HO} (ok : HOk P w H h) (e : Rd H a u) : ObjOk P w H h a u := e.ok ok
theorem dk_rd {kvs : List (Key × V)} (ok : HOk P w H h) (e : Rd H a (.dK kvs)) : kvs.length ≤ sizeLine ∧ (a == sysModules) = false ∧ ∃ vs, KV kvs vs ∧ h.DictOf (mixKind P w) a vs :=
  show ObjOk P w H h a (.dK kvs) from rd_of ok e
theorem dk_of {kvs : List (Key × V)} (ok : HOk P w H h) (e : H a = some (.dK kvs)) : kvs.length ≤ sizeLine ∧ (a == sysModules) = false ∧ ∃ vs, KV kvs vs ∧ h.DictOf (mixKind P w) a vs := dk_rd ok (.inl e)
theorem key_of {ks : List Key} (ok : HOk P w H h) (e : H a = some (.tup (ks.map kV))) : (tupleKind (mixKind P w)).is h ks a := by
  obtain ⟨_, its, r, o, h1, h2, n, h3⟩ := (show ObjOk P w H h a (.tup (ks.map kV)) from ok a _ e)
  exact ⟨o, its.toArray, n, h1, h2, h3, by simpa using items_are r⟩
theorem dt_rd {kvs : List (List Key × V)} (ok : HOk P w H h) (e : Rd H a (.dT kvs)) : kvs.length ≤ sizeLine ∧ (a == sysModules) = false ∧
    ∃ xs, KT H kvs xs ∧ h.DictOfH (tupleKind (mixKind P w)) a xs := by
  obtain ⟨z, y, xs, r, o, es, ep, h1, h2, h3, h4, h5⟩ := (show ObjOk P w H h a (.dT kvs) from rd_of ok e)
  refine ⟨z, y, xs, r, o, es, ep, h1, h2, h3, h4, fun x hx => ?_, h5⟩
  have all : ∀ {l : List (List Key × V)} {m : List (List Key × Addr × Value)}, KT H l m → ∀ x ∈ m, (tupleKind (mixKind P w)).is h x.1 x.2.1 := by
    intro l m q
    induction q with
    | nil => intro x hx; exact nomatch hx
    | @cons p q ps qs hq t ih =>
      intro x hx
      rcases List.mem_cons.mp hx with e | hx
      · subst e
        exact key_of ok (by rw [← hq.1]; exact hq.2.1)
      · exact ih x hx
  exact all r x hx
theorem dt_of {kvs : List (List Key × V)} (ok : HOk P w H h) (e : H a = some (.dT kvs)) : kvs.length ≤ sizeLine ∧ (a == sysModules) = false ∧
    ∃ xs, KT H kvs xs ∧ h.DictOfH (tupleKind (mixKind P w)) a xs := dt_rd ok (.inl e)
end
def DGet (H : Hp) (a : Addr) (y : V) (r : Option V) : Prop :=
  (∃ kvs k, Rd H a (.dK kvs) ∧ y = kV k ∧ r = valV kvs k) ∨ ∃ kvs k b, Rd H a (.dT kvs) ∧ y = .ref b ∧ H b = some (.tup (k.map kV)) ∧ r = valV kvs k
def DPut (H : Hp) (a : Addr) (y v : V) (H' : Hp) : Prop :=
  (∃ kvs k, H a = some (.dK kvs) ∧ y = kV k ∧ kvs.length < sizeLine ∧ H' = upd H a (.dK (putK kvs k v))) ∨
  ∃ kvs k b, H a = some (.dT kvs) ∧ y = .ref b ∧ H b = some (.tup (k.map kV)) ∧ kvs.length < sizeLine ∧ H' = upd H a (.dT (putK kvs k v))
theorem DGet.k {H : Hp} {a : Addr} {kvs : List (Key × V)} {k : Key} (e : H a = some (.dK kvs)) : DGet H a (kV k) (valV kvs k) := .inl ⟨kvs, k, .inl e, rfl, rfl⟩
theorem DGet.t {H : Hp} {a b : Addr} {kvs : List (List Key × V)} {k : List Key} (e : H a = some (.dT kvs)) (eb : H b = some (.tup (k.map kV))) : DGet H a (.ref b) (valV kvs k) := .inr ⟨kvs, k, b, .inl e, rfl, eb, rfl⟩
theorem DPut.k {H : Hp} {a : Addr} {kvs : List (Key × V)} {k : Key} {v : V} (e : H a = some (.dK kvs)) (hl : kvs.length < sizeLine) : DPut H a (kV k) v (upd H a (.dK (putK kvs k v))) := .inl ⟨kvs, k, e, rfl, hl, rfl⟩
theorem DPut.t {H : Hp} {a b : Addr} {kvs : List (List Key × V)} {k : List Key} {v : V} (e : H a = some (.dT kvs)) (eb : H b = some (.tup (k.map kV))) (hl : kvs.length < sizeLine) :
    DPut H a (.ref b) v (upd H a (.dT (putK kvs k v))) := .inr ⟨kvs, k, b, e, rfl, eb, hl, rfl⟩
section
variable {X : Cx} {pins : List (Addr × Obj)} {σ : St} {H : Hp} {s : Shared} {a : Addr} {y v : V} {u r : Value} {o : Option V} {A : Around} {E : Value → Shared → Prop}
theorem Inv.big (I : Inv X pins σ H s) : sysModules < s.heap.objs.size := by
  have h : mainGlobals < s.heap.objs.size := (I.mod.glob.keeps I.bk).lt
  exact Nat.lt_trans (by decide) h
theorem d_getItem {Q : Value → Shared → Prop} (hu : A.units + 1 < cLine) (I : Inv X pins σ H s) (g : DGet H a y (some v)) (ry : RelV y u) (h : ∀ w' s', Inv X pins σ H s' → RelV v w' → Q w' s') :
    wpAny (model X.prog X.w) A (getItem (.ref a) u) Q E s := by
  rcases g with ⟨kvs, k, e, ey, l⟩ | ⟨kvs, k, b, e, ey, eb, l⟩
  · subst ey
    obtain ⟨z, hd, vs, rel, dd⟩ := dk_rd I.hok e
    obtain ⟨w', hw, rw'⟩ := RelO.some_of (v := v) (o := valueAt vs k) (by rw [l]; exact rel.val k)
    exact wpAny_getItem_of (kV_is ry) dd.mapOf hw (h w' _ (I.tok _) rw')
  · subst ey
    cases (show u = Value.ref b from ry)
    obtain ⟨z, hd, xs, rel, dd⟩ := dt_rd I.hok e
    obtain ⟨w', hw, rw'⟩ := RelO.some_of (v := v) (o := (atKey xs k).map (·.2)) (by rw [l]; exact rel.val k)
    obtain ⟨p, hp, hp2⟩ := Option.map_eq_some_iff.mp hw
    refine wpAny_getItem_heap (tupleKind_room_in1 hu) (key_of I.hok eb) dd hp ?_
    rw [hp2]
    exact h w' _ (I.tok _) rw'
theorem d_in {Q : Value → Shared → Prop} (hu : A.units + 1 < cLine) (I : Inv X pins σ H s) (g : DGet H a y o) (ry : RelV y u) (h : ∀ s', Inv X pins σ H s' → Q (.bool o.isSome) s') :
    wpAny (model X.prog X.w) A (compareOp .In u (.ref a)) Q E s := by
  rcases g with ⟨kvs, k, e, ey, l⟩ | ⟨kvs, k, b, e, ey, eb, l⟩
  · subst ey
    obtain ⟨z, hd, vs, rel, dd⟩ := dk_rd I.hok e
    refine wpAny_in_of (kV_is ry) hd dd.mapOf ?_
    rw [← (rel.val k).isSome_eq, ← l]
    exact h _ (I.tok _)
  · subst ey
    cases (show u = Value.ref b from ry)
    obtain ⟨z, hd, xs, rel, dd⟩ := dt_rd I.hok e
    refine wpAny_in_heap (tupleKind_room_in1 hu) (key_of I.hok eb) hd dd ?_
    have q := (rel.val k).isSome_eq
    rw [Option.isSome_map] at q
    rw [← q, ← l]
    exact h _ (I.tok _)
theorem d_notIn {Q : Value → Shared → Prop} (hu : A.units + 1 < cLine) (I : Inv X pins σ H s) (g : DGet H a y o) (ry : RelV y u) (h : ∀ s', Inv X pins σ H s' → Q (.bool (!o.isSome)) s') :
    wpAny (model X.prog X.w) A (compareOp .NotIn u (.ref a)) Q E s := by
  rcases g with ⟨kvs, k, e, ey, l⟩ | ⟨kvs, k, b, e, ey, eb, l⟩
  · subst ey
    obtain ⟨z, hd, vs, rel, dd⟩ := dk_rd I.hok e
    refine wpAny_notIn_of (kV_is ry) hd dd.mapOf ?_
    rw [← (rel.val k).isSome_eq, ← l]
    exact h _ (I.tok _)
  · subst ey
    cases (show u = Value.ref b from ry)
    obtain ⟨z, hd, xs, rel, dd⟩ := dt_rd I.hok e
    refine wpAny_notIn_heap (tupleKind_room_in1 hu) (key_of I.hok eb) hd dd ?_
    have q := (rel.val k).isSome_eq
    rw [Option.isSome_map] at q
    rw [← q, ← l]
    exact h _ (I.tok _)
theorem d_write {h' : Heap} {t' : Nat} {ob : HO} (I : Inv X pins σ H s) (mu : Mut (H a)) (hs : Heap.SameBut a s.heap h') (he : ∃ q, h'.get? a = some q) (new : ObjOk X.prog X.w (upd H a ob) h' a ob) :
    Inv X pins σ (upd H a ob) { s with heap := h', toks := t' } :=
  I.write (x := a) (e := a) mu (.inl rfl) (fun b q hb z => (hs.2 b hb).trans z) he new
theorem dk_new {P : Program} {w : World} {H' : Hp} {h' : Heap} {kvs : List (Key × V)} {vs : List (Key × Value)} (z : kvs.length ≤ sizeLine) (hd : (a == sysModules) = false) (rel : KV kvs vs) (dd : h'.DictOf (mixKind P w) a vs) :
    ObjOk P w H' h' a (.dK kvs) := ⟨z, hd, vs, rel, dd⟩
theorem d_setItem {H' : Hp} {Q : Unit → Shared → Prop} (hu : A.units + 1 < cLine) (I : Inv X pins σ H s) (g : DPut H a y v H') (ry : RelV y u) (rv : RelV v r) (h : ∀ s', Inv X pins σ H' s' → Q () s') :
    wpAny (model X.prog X.w) A (setItem (.ref a) u r) Q E s := by
  rcases g with ⟨kvs, k, e, ey, l, eH⟩ | ⟨kvs, k, b, e, ey, eb, l, eH⟩
  · subst ey eH
    obtain ⟨z, hd, vs, rel, dd⟩ := dk_of I.hok e
    have hz : vs.length ≤ sizeLine := by rw [← rel.length]; exact z
    have hl : (putK kvs k v).length ≤ sizeLine := by have := length_putK kvs k v; omega
    refine wpAny_setItem_pairs (hsz := hz) (kV_is ry) dd fun h' dd' hs => h _ ?_
    have he : ∃ q, h'.get? a = some q := let ⟨q, _, _, hq, _⟩ := dd'; ⟨q, hq⟩
    exact d_write I (by rw [e]; exact True.intro) hs he (dk_new hl hd (rel.put k rv) dd')
  · subst ey eH
    cases (show u = Value.ref b from ry)
    obtain ⟨z, hd, xs, rel, dd⟩ := dt_of I.hok e
    have hz : xs.length ≤ sizeLine := by rw [← Paired.length rel]; exact z
    have hl : (putK kvs k v).length ≤ sizeLine := by have := length_putK kvs k v; omega
    refine wpAny_setItem_heap (hsz := hz) (tupleKind_room_in1 hu) (key_of I.hok eb) dd fun h' dd' hs => h _ ?_
    obtain ⟨q, es, ep, hq, h2, h3, h4, _, h5⟩ := dd'
    refine d_write I (by rw [e]; exact True.intro) hs ⟨q, hq⟩ ⟨hl, hd, _, (rel.put k eb rv).keeps fun c ys ec => ?_, q, es, ep, hq, h2, h3, h4, h5⟩
    rw [upd_ne (ne_of ec e (fun z => nomatch z))]
    exact ec
end
section
variable {X : Cx} {pins : List (Addr × Obj)} {σ : St} {H : Hp} {s : Shared} {a : Addr} {kvs : List (Key × V)} {k : Key} {u : Value} {A : Around} {E : Value → Shared → Prop}
end
def NoSl (i : Expr) : Prop := ∀ ov iv, subscripted i false ov iv = operate [ov, iv] (getItem ov iv)
theorem subD_of {prog : Program} {w : World} {A : Around} {E : Value → Shared → Prop} {s : Shared} {env : Env} {value slice : Expr} {pos : Pos} {T id : String} {Q : Value → Shared → Prop}
    (hl : typeLookup (.type T) "__getitem__" = pure (some (.builtin id))) (hs : NoSl slice)
    (h : wpAny (model prog w) A (eval value env) (fun o s₁ => wpAny (model prog w) A (eval slice env) (fun i s₂ => s₂.TypeIs o T ∧ wpAny (model prog w) A (getItem o i) Q E s₂) E s₁) E s) :
    wpAny (model prog w) A (eval (.Subscript value slice pos) env) Q E s := by
  refine Subscript_ (wpAny_mono h (fun o s₁ h₁ => wpAny_mono h₁ (fun i s₂ h₂ => ?_) fun _ _ x => x) fun _ _ x => x)
  obtain ⟨hT, h₂⟩ := h₂
  unfold subscriptTail
  refine wpAny_bind ?_
  rw [getitemInPython_of_ne hT.not_modules]
  refine wpAny_bind (wpAny_specialOf hT hl ?_)
  have fin : wpAny (model prog w) A (subscripted slice false o i) (fun r s₃ => wpAny (model prog w) A (letTemporaryGo value o r >>= fun _ => pure r) Q E s₃) E s₂ := by
    rw [hs o i]
    exact wpAny_operating (wpAny_mono h₂ (fun r s₃ h₃ => wpAny_bind (wpAny_letTemporaryGo (wpAny_pure h₃))) fun _ _ x => x)
  first
    | exact wpAny_pure (wpAny_bind fin)
    | exact wpAny_bind (wpAny_pure (wpAny_bind fin))
    | exact wpAny_bind fin
theorem dict_typeIs {X : Cx} {pins : List (Addr × Obj)} {σ : St} {H : Hp} {s : Shared} {a : Addr} {y : V} {o : Option V} (I : Inv X pins σ H s) (g : DGet H a y o) : s.TypeIs (.ref a) "dict" := by
  rcases g with ⟨kvs, k, e, _, _⟩ | ⟨kvs, k, b, e, _, _, _⟩
  · obtain ⟨_, _, vs, _, dd⟩ := dk_rd I.hok e
    exact dd.typeIs
  · obtain ⟨_, _, xs, _, dd⟩ := dt_rd I.hok e
    exact dd.typeIs
def tDGet (td ty : TE) : TE := fun σ H Q => td σ H fun x H1 => ty σ H1 fun y H2 => ∃ a v, x = .ref a ∧ DGet H2 a y (some v) ∧ Q v H2
def tDIn (ty td : TE) : TE := fun σ H Q => ty σ H fun y H1 => td σ H1 fun x H2 => ∃ a o, x = .ref a ∧ DGet H2 a y o ∧ Q (.bl o.isSome) H2
def tDNotIn (ty td : TE) : TE := fun σ H Q => ty σ H fun y H1 => td σ H1 fun x H2 => ∃ a o, x = .ref a ∧ DGet H2 a y o ∧ Q (.bl (!o.isSome)) H2
def sDPut (td ty tv : TE) : TS := fun D σ H => tv σ H fun v H1 => td σ H1 fun x H2 => ty σ H2 fun y H3 => ∃ a H4, x = .ref a ∧ DPut H3 a y v H4 ∧ D.nx σ H4
section
variable {X : Cx} {o i e value : Expr} {pos pos' tpos : Pos} {td ty tv : TE}
theorem pe_dget (hu : X.A.units + 1 < cLine) (ho : PE X o td) (hi : PE X i ty) (hs : NoSl i) : PE X (.Subscript o i pos) (tDGet td ty) := by
  intro pins s σ H Q I h
  refine subD_of PySem.F.slot_dict_getitem.lookup hs (thn (ho pins s σ H _ I h) fun u s1 ⟨x, H1, I1, rx, q1⟩ => thn (hi pins s1 σ H1 _ I1 q1) fun iv s2 ⟨y, H2, I2, ry, a, v, ex, g, q2⟩ => ?_)
  subst ex
  obtain rfl : u = Value.ref a := rx
  exact ⟨dict_typeIs I2 g, d_getItem hu I2 g ry fun w' s3 I3 rw' => ⟨v, H2, I3, rw', q2⟩⟩
theorem pc_din (hu : X.A.units + 1 < cLine) (hi : PE X i ty) (ho : PE X o td) : PC X .In i o (tDIn ty td) := by
  intro pins s σ H Q I h
  refine thn (hi pins s σ H _ I h) fun iv s1 ⟨y, H1, I1, ry, q1⟩ => thn (ho pins s1 σ H1 _ I1 q1) fun u s2 ⟨x, H2, I2, rx, a, ov, ex, g, q2⟩ => ?_
  subst ex
  obtain rfl : u = Value.ref a := rx
  exact d_in hu I2 g ry fun s3 I3 => ⟨.bl ov.isSome, H2, I3, rfl, q2⟩
theorem pc_dnotin (hu : X.A.units + 1 < cLine) (hi : PE X i ty) (ho : PE X o td) : PC X .NotIn i o (tDNotIn ty td) := by
  intro pins s σ H Q I h
  refine thn (hi pins s σ H _ I h) fun iv s1 ⟨y, H1, I1, ry, q1⟩ => thn (ho pins s1 σ H1 _ I1 q1) fun u s2 ⟨x, H2, I2, rx, a, ov, ex, g, q2⟩ => ?_
  subst ex
  obtain rfl : u = Value.ref a := rx
  exact d_notIn hu I2 g ry fun s3 I3 => ⟨.bl (!ov.isSome), H2, I3, rfl, q2⟩
theorem ps_dput (hu : X.A.units + 1 < cLine) (ho : PE X o td) (hi : PE X i ty) (hv : PE X value tv) (hs : swapsWith value (some (.Subscript o i pos')) pos.line X.env = pure false) :
    PS X (.Assign [.Subscript o i pos'] value pos) (sDPut td ty tv) := by
  intro pins s σ H D I h
  refine wpAny_Assign_Subscript (thn (hv pins s σ H _ I h) fun r s1 ⟨v, H1, I1, rv, q1⟩ => thn (ho pins s1 σ H1 _ I1 q1) fun u s2 ⟨x, H2, I2, rx, q2⟩ => thn (hi pins s2 σ H2 _ I2 q2) fun iv s3 ⟨y, H3, I3, ry, a, H4, ex, g, q3⟩ => ?_) hs
  subst ex
  obtain rfl : u = Value.ref a := rx
  exact d_setItem hu I3 g ry rv fun s4 I4 => ⟨σ, H4, I4, q3⟩
end
theorem dk_empty {P : Program} {w : World} {H : Hp} (h : Heap) (hb : sysModules < h.objs.size) : ObjOk P w H (h.push { cls := .type "dict", data := .dict #[] }) h.objs.size (.dK []) :=
  ⟨Nat.zero_le _, beq_eq_false_iff_ne.mpr (Ne.symm (Nat.ne_of_lt hb)), [], .nil, Heap.DictOf.new h⟩
def tDNewK : TE := fun _ H Q => ∀ p, H p = none → Q (.ref p) (upd H p (.dK []))
section
variable {X : Cx} {pos : Pos}
theorem pe_dnewK : PE X (.Dict [] [] pos) tDNewK := fun pins s σ H Q I h =>
  wpAny_Dict_empty ⟨.ref s.heap.objs.size, _, I.laid (a := s.heap.objs.size) (o := .dK []) (t' := s.toks) (fun _ _ q => Heap.get?_push_of_some _ q) (Nat.le_refl _) (dk_empty s.heap I.big), rfl, h _ (I.hok.fresh (Nat.le_refl _))⟩
end
def tPairs : List (TE × TE) → St → Hp → (List (V × V) → Hp → Prop) → Prop
  | [], _, H, Q => Q [] H
  | (tk, tv) :: r, σ, H, Q => tk σ H fun x H1 => tv σ H1 fun y H2 => tPairs r σ H2 fun ps H3 => Q ((x, y) :: ps) H3
abbrev VV : List (V × V) → List (Value × Value) → Prop := Paired fun p q => RelV p.1 q.1 ∧ RelV p.2 q.2
def PPs (X : Cx) (pos : Pos) (keys : List (Option Expr)) (values : List Expr) (trs : List (TE × TE)) : Prop :=
  ∀ (pins : List (Addr × Obj)) (s : Shared) (σ : St) (H : Hp) (Q : List (V × V) → Hp → Prop), Inv X pins σ H s → tPairs trs σ H Q →
    wpAny (model X.prog X.w) X.A (evalPairs (pairTrees keys values X.env pos)) (fun vs s' => ∃ ps H', Inv X pins σ H' s' ∧ VV ps vs ∧ Q ps H') X.xe s
theorem pps_nil {X : Cx} {pos : Pos} : PPs X pos [] [] [] := fun pins s σ H Q I h => pairTrees_nil_walk ⟨[], H, I, .nil, h⟩
theorem pps_cons {X : Cx} {pos : Pos} {k v : Expr} {ks : List (Option Expr)} {vs : List Expr} {tk tv : TE} {trs : List (TE × TE)} (hk : PE X k tk) (hv : PE X v tv) (hr : PPs X pos ks vs trs) :
    PPs X pos (some k :: ks) (v :: vs) ((tk, tv) :: trs) := fun pins s σ H Q I h =>
  pairTrees_cons_walk (thn (hk pins s σ H _ I h) fun u s1 ⟨x, H1, I1, rx, q1⟩ => thn (hv pins s1 σ H1 _ I1 q1) fun w2 s2 ⟨y, H2, I2, ry, q2⟩ =>
    thn (hr pins s2 σ H2 _ I2 q2) fun ws s3 ⟨ps, H3, I3, rel, q3⟩ => ⟨(x, y) :: ps, H3, I3, .cons ⟨rx, ry⟩ rel, q3⟩)
def mergeK (kvs more : List (Key × V)) : List (Key × V) := more.foldl (fun acc kv => putK acc kv.1 kv.2) kvs
theorem KV.merge : ∀ {more : List (Key × V)} {rs : List (Key × Value)} {kvs : List (Key × V)} {vs : List (Key × Value)}, KV more rs → KV kvs vs → KV (mergeK kvs more) (merged vs rs) := by
  intro more rs kvs vs r
  unfold KV at r
  induction r generalizing kvs vs with
  | nil => intro q; exact q
  | @cons p q ps qs h t ih =>
    intro r0
    have e : KV (putK kvs p.1 p.2) (stored vs q.1 q.2) := by
      have := r0.put p.1 h.2
      rw [← h.1]; exact this
    exact ih e
theorem length_mergeK : ∀ (more kvs : List (Key × V)), (mergeK kvs more).length ≤ kvs.length + more.length
  | [], kvs => by show kvs.length ≤ kvs.length + 0; omega
  | p :: r, kvs => by
    have h1 := length_mergeK r (putK kvs p.1 p.2)
    have h2 := length_putK kvs p.1 p.2
    show (mergeK (putK kvs p.1 p.2) r).length ≤ _
    rw [List.length_cons]; omega
theorem carries_of {P : Program} {w : World} : ∀ {kvs : List (Key × V)} {ws : List (Value × Value)}, VV (kvs.map fun kv => (kV kv.1, kv.2)) ws → ∃ rs, Carries (mixKind P w) ws rs ∧ KV kvs rs
  | [], _, r => by rw [List.map_nil] at r; cases r; exact ⟨[], True.intro, .nil⟩
  | p :: kvs, _, r => by
    rw [List.map_cons] at r
    cases r with
    | @cons a b as bs h t =>
      obtain ⟨rs, c, q⟩ := carries_of (P := P) (w := w) t
      obtain ⟨b1, b2⟩ := b
      exact ⟨(p.1, b2) :: rs, ⟨kV_is h.1, rfl, c⟩, .cons ⟨rfl, h.2⟩ q⟩
def tDisp (trs : List (TE × TE)) : TE := fun σ H Q => ∀ p, H p = none → tPairs trs σ (upd H p (.dK [])) fun ps H2 => H2 p = some (.dK []) ∧ ∃ kvs : List (Key × V), ps = kvs.map (fun kv => (kV kv.1, kv.2)) ∧ kvs.length ≤ 15 ∧ Q (.ref p) (upd H2 p (.dK (mergeK [] kvs)))
theorem pe_disp {X : Cx} {pos : Pos} {keys : List (Option Expr)} {values : List Expr} {trs : List (TE × TE)} (h : PPs X pos keys values trs) (hall : keys.all (·.isSome) = true) (hl : keys.length = values.length) (h0 : keys ≠ [])
    (h15 : keys.length ≤ 15) : PE X (.Dict keys values pos) (tDisp trs) := by
  intro pins s σ H Q I q
  have hn := I.hok.fresh (Nat.le_refl s.heap.objs.size)
  have I1 := I.laid (a := s.heap.objs.size) (o := .dK []) (h' := s.heap.push { cls := .type "dict", data := .dict #[] }) (t' := s.toks) (fun _ _ q => Heap.get?_push_of_some _ q) (Nat.le_refl _) (dk_empty s.heap I.big)
  refine wpAny_Dict_walk (knd := mixKind X.prog X.w) hall hl h0 h15 (thn (h pins _ σ _ _ I1 (q _ hn)) fun ws s2 ⟨ps, H2, I2, rel, e, kvs, ep, lk, q2⟩ => ?_)
  subst ep
  obtain ⟨rs, c, rk⟩ := carries_of (P := X.prog) (w := X.w) rel
  obtain ⟨z, hd, vs0, r0, dd⟩ := dk_of I2.hok e
  cases r0
  refine ⟨rs, c, dd, fun h' dd' hs => ⟨.ref s.heap.objs.size, _, ?_, rfl, q2⟩⟩
  have hz : (mergeK [] kvs).length ≤ sizeLine := by
    have h1 := length_mergeK kvs []
    rw [List.length_nil] at h1
    rw [sizeLine_eq]; omega
  have he : ∃ q, h'.get? s.heap.objs.size = some q := let ⟨q, _, _, hq, _⟩ := dd'; ⟨q, hq⟩
  exact d_write I2 (by rw [e]; exact True.intro) hs he (dk_new hz hd (rk.merge .nil) dd')
structure M1 (X : Cx) (o : Expr) (m : Str) (apos : Pos) (e : Expr) (cpos : Pos) : Prop where
  base : attributeBase o m X.env (eval o X.env) = eval o X.env
  few : ((backTo cpos (starEach [e] X.env)).all (fun x => !x.1) && (backToKw cpos (keywordEach [] X.env)).all (fun x => x.1.isSome)
    && decide (([e] : List Expr).length + ([] : List Keyword).length + (if ([] : List Keyword).isEmpty then 0 else 1) < 30)) = true
  line : (apos.endLine == cpos.line) = true
  trees : backTo cpos (starEach [e] X.env) = [(false, eval e X.env)]
structure M2 (X : Cx) (o : Expr) (m : Str) (apos : Pos) (e f : Expr) (cpos : Pos) : Prop where
  base : attributeBase o m X.env (eval o X.env) = eval o X.env
  few : ((backTo cpos (starEach [e, f] X.env)).all (fun x => !x.1) && (backToKw cpos (keywordEach [] X.env)).all (fun x => x.1.isSome)
    && decide (([e, f] : List Expr).length + ([] : List Keyword).length + (if ([] : List Keyword).isEmpty then 0 else 1) < 30)) = true
  line : (apos.endLine == cpos.line) = true
  trees : backTo cpos (starEach [e, f] X.env) = [(false, eval e X.env), (false, eval f X.env)]
section
variable {X : Cx} {pins : List (Addr × Obj)} {σ : St} {H : Hp} {s : Shared} {a : Addr} {y d : V} {u r : Value} {o : Option V} {A : Around} {E : Value → Shared → Prop}
end
section
variable {X : Cx} {o e f : Expr} {apos cpos : Pos} {td ty tx : TE}
end
section
variable {X : Cx} {pins : List (Addr × Obj)} {σ : St} {H : Hp} {s : Shared} {a : Addr} {kvs : List (Key × V)} {A : Around} {E : Value → Shared → Prop}
end
section
variable {X : Cx} {pins : List (Addr × Obj)} {σ : St} {H : Hp} {s : Shared} {a : Addr} {y : V} {u : Value} {A : Around} {E : Value → Shared → Prop}
end
end L2
namespace Att
open PySem PySem.W PySem.Calls PyProof.Rows
theorem ints_of_wellAll {P : Params} {h : Heap} : ∀ (ns : List Int) (vs : List Value), WellAll P h vs (ns.map WData.int) → IntsAre vs ns := by
  intro ns
  induction ns with
  | nil =>
    intro vs w
    rw [List.map_nil] at w
    cases w
    exact .nil
  | cons n ns ih =>
    intro vs w
    rw [List.map_cons] at w
    cases w with
    | cons a b =>
      cases a
      exact .cons _ _ (ih _ b)
theorem script_of {l : OpenLaw} {n : Nat} (hn : l.most = some n) {P : Params} {h : Heap} {args : List WData} {vals : List Value}
    (hpre : l.row.toRowW.claim.pre args = true) (hwl : WellAll P h vals args) :
    ∃ a vs ns, vals = [Value.ref a] ∧ args = [WData.list (ns.map WData.int)] ∧ h.get? a = some { cls := .type "list", data := .seq vs.toArray } ∧ IntsAre vs ns ∧ ns.length ≤ n := by
  have hsh : WShape.hasAll [] args [.list .int] = true := (pre_splitW hpre).1
  have hc : l.pre.holds [] { args := args } = true := (pre_splitW hpre).2
  obtain ⟨d, r, rfl, h1, h2⟩ := hasAllW_cons hsh
  obtain rfl := hasAllW_nil h2
  obtain ⟨xs, rfl, h3⟩ := hasW_list h1
  obtain ⟨ns, rfl⟩ := items_int h3
  have hlen : ns.length ≤ n := by
    unfold OpenLaw.pre at hc
    have h4 : (WTm.not (.lt (.lit (.int (n : Int))) (.len (.arg 0)))).holds [] { args := [.list (ns.map .int)] } = true := by
      have h4 := (holds_andW hc).1
      rw [hn] at h4
      exact h4
    have h5 := condW_of h4 (w_not (w_lt w_lit (w_len_list (w_arg rfl))))
    rw [List.length_map] at h5
    refine Nat.le_of_not_lt fun q => ?_
    have q' : (n : Int) < ((ns.length : Nat) : Int) := by omega
    first
      | (rw [decide_eq_true q'] at h5; exact absurd h5 (by decide))
      | (simp at h5; omega)
  cases hwl with
  | cons w1 w2 =>
    cases w2
    cases w1 with
    | list ho hall => exact ⟨_, _, ns, rfl, rfl, ho, ints_of_wellAll ns _ hall, hlen⟩
theorem post_true (l : OpenLaw) (args : List WData) : l.row.toRowW.claim.post args (.bool true) args = true :=
  postW_of (r := l.row.toRowW) (X := (true == true))
    (show WShape.has [] (.bool true) .bool = true by first | rfl | decide | simp [WShape.has, WShape.arms, WShape.armsAll])
    (show (WTm.eq .res (.lit (.bool true))).value [] { args := args, res := some (.bool true), after := args } = some (.bool (true == true)) from w_eq_bool (w_res rfl) w_lit) rfl
theorem attach_call {l : OpenLaw} {n : Nat} {q : Program} {loose : List Str} {XP : (Str → Option Value) → Heap → Prop} {YP : World → Heap → Prop} {d : DefRec}
    (hn : l.most = some n) (hdf : d.params.defaults = [])
    (call : ∀ (w : World) (s₀ s₁ : Shared) (mg mb : Str → Option Value) (fa : Addr) (o : Obj) (pm cd doc : Value) (a : Addr) (vs : List Value) (ns : List Int),
      Ground q loose [] XP w s₀ mg mb s₁.heap → YP w s₁.heap →
      s₁.heap.get? fa = some o → o.data = .func (docDef d.name d.params d.body d.scope pm cd doc) → s₁.heap.CodeRec cd d.name → mg d.name = some (.ref fa) →
      s₁.heap.get? a = some { cls := .type "list", data := .seq vs.toArray } → IntsAre vs ns → ns.length ≤ n → s₁.gens = #[] →
      codeAny (model l.prog w) callerA (.call (.ref fa) ⟨[.ref a], []⟩) (fun r s' => r = .ok (.ret (.bool true)) ∧ OldK s₁.heap s'.heap ∧ s'.os = s₁.os ∧ AllBare s'.gens) s₁) :
    WalkO q loose XP YP l.row.toRowW d [] (fun f vs => PySem.call f vs) := by
  intro w s₀ s₁ mg mb G Y fa o pm cd doc dV kV ho hd hcd hD hmg hg args vals as hpre hlay hrd hwl hlo
  obtain rfl : dV = .none := Dflts.none hD hdf
  obtain rfl : kV = .none := Dflts.noKw hD
  obtain ⟨a, vs, ns, rfl, rfl, hobj, hints, hlen⟩ := script_of hn hpre hwl
  refine enter_call (codeAny_mono (call w s₀ s₁ mg mb fa o pm cd doc a vs ns G Y ho (fd_plain hd) hcd hmg hobj hints hlen hg) fun r s' hq => ?_)
  obtain ⟨rfl, h2, h3, h4⟩ := hq
  exact ⟨.inl ⟨.bool true, .bool true, [], rfl, fun _ => rfl, .bool true, post_true l _, fun _ => ⟨List.Pairwise.nil, fun _ hm => (nomatch hm)⟩⟩, h2, h3, h4⟩
section
variable {prog : Program} {w : World} {A : Around} {E : Value → Shared → Prop} {s : Shared} {K : Frag}
end
end Att
namespace L2
open PySem PySem.Spec PyProof.Rows
theorem vals_ints : ∀ {vs : List Value} {ns : List Int}, IntsAre vs ns → Vals (ns.map V.int) vs
  | _, _, .nil => .nil
  | _, _, .cons n t h => .cons ⟨t, rfl⟩ (vals_ints h)
def Only (H : Hp) : Prop := ∀ b, H b = none ∨ ∃ o xs, H b = some (.frz o (.lst xs))
theorem law_call {P : Program} {w : World} {K : PySem.W.Frag} {mg mb : Str → Option Value} {CX : CXT} {k : Nat} {fa a : Addr} {fd : FuncData} {x : Str} {sp : Sp} {s₁ : Shared} {vs : List Value} {ns : List Int}
    (KX : K.In s₁.heap) (hns : s₁.heap.Ns mainGlobals mg) (hb : s₁.heap.Ns builtinsNs mb) (hbb : ∀ x : Str, x ≠ "__name__" → mb x = bootBuiltins x) (hlim : s₁.heap.NoLimit) (hg : s₁.gens = #[])
    (ha : s₁.heap.get? a = some { cls := .type "list", data := .seq vs.toArray }) (hi : IntsAre vs ns) (hl : ns.length ≤ sizeLine) (hr : Room k callerA)
    (F : ∀ base : Heap, K.In base → base.Ns mainGlobals mg → FnOk P w K mg base CX k fa fd [x] sp) (hbind : ∀ (s : Shared) (u : Value), BindsTo s fd ⟨[u], []⟩ [(x, u)])
    (hsp : ∀ H : Hp, Only H → SqL K H a (ns.map V.int) → sp [.ref a] H (fun v _ => v = .bl true) fun _ _ _ => False)
    (hCX : ∀ H e s', CX callerA.handled [] H s₁ (fun _ _ _ => False) e s' → False) :
    codeAny (model P w) callerA (.call (.ref fa) ⟨[.ref a], []⟩) (fun r s' => r = .ok (.ret (.bool true)) ∧ OldK s₁.heap s'.heap ∧ s'.os = s₁.os ∧ AllBare s'.gens) s₁ := by
  have rv := vals_ints hi
  have lenV := hi.length
  -- from an abstract heap in which nothing but the script may be tracked
  have core : ∀ H : Hp, Only H → SqL K H a (ns.map V.int) → HOk P w H s₁.heap → (∀ b, H b ≠ none → b = a) → (H a ≠ none → K.lookup a = none) →
      codeAny (model P w) callerA (.call (.ref fa) ⟨[.ref a], []⟩) (fun r s' => r = .ok (.ret (.bool true)) ∧ OldK s₁.heap s'.heap ∧ s'.os = s₁.os ∧ AllBare s'.gens) s₁ := by
    intro H hO hS hok hA hK
    have base_of : ∀ {b : Addr} {o : Obj}, s₁.heap.get? b = some o → H b = none → (hidT s₁.heap H).get? b = some o := fun e n => hidT_get e n
    have noA : ∀ {b : Addr} {o : Obj} {es : Array DictEntry} {ep : Nat}, s₁.heap.get? b = some o → o.data = .dict es ep → H b = none := fun {b o es ep} e d => by
      cases q : H b with
      | none => rfl
      | some u =>
        have e' : b = a := hA b (by rw [q]; simp)
        subst e'
        rw [ha] at e; cases e
        have d' : Data.seq vs.toArray _ = Data.dict es ep := d
        cases d'
    have nsK : ∀ {b : Addr} {m : Str → Option Value}, s₁.heap.Ns b m → (hidT s₁.heap H).Ns b m := fun {b m} ⟨o, es, ep, e, d, r⟩ => ⟨o, es, ep, base_of e (noA e d), d, r⟩
    have hKb : K.In (hidT s₁.heap H) := fun b o e => base_of (KX b o e) (by
      cases q : H b with
      | none => rfl
      | some u =>
        have e' : b = a := hA b (by rw [q]; simp)
        subst e'
        rw [hK (by rw [q]; simp)] at e; cases e)
    have hM : Mod K mg (hidT s₁.heap H) := ⟨hKb, nsK hns, ⟨mb, nsK hb, hbb⟩, let ⟨mc, h1, h2⟩ := hlim; ⟨mc, nsK h1, h2⟩⟩
    have e0 : Env0 P w K mg (hidT s₁.heap H) callerA [] s₁ H := ⟨rfl, hM, fun b o e => of_hidT e, Nat.le_of_eq (hidT_size _ _), trivial, fun b hb => absurd (show b ∈ ([] : List Addr) from hb) (by simp), hok, .of_eq hg, .inl rfl⟩
    refine codeAny_mono ((F _ hKb (nsK hns)).run callerA [] s₁ H ⟨[.ref a], []⟩ [.ref a] [.ref a] _ _ hr e0 (hbind s₁ (.ref a)) (.cons rfl .nil) (hsp H hO hS)) fun r s' h => ?_
    cases r with
    | error e => exact (hCX H e s' h).elim
    | ok fl =>
      cases fl with
      | next => exact False.elim h
      | brk => exact False.elim h
      | cont => exact False.elim h
      | ret u =>
        obtain ⟨v, H', os, bare, un, hok', r', q⟩ := h
        have q' : v = .bl true := q
        subst q'
        obtain rfl : u = Value.bool true := r'
        refine ⟨rfl, OldK.of_keep fun b o e => ?_, os, bare⟩
        cases q : H b with
        | none => exact un.keep b o e q (by intro z; exact absurd (show b ∈ ([] : List Addr) from z) (by simp)) (by simp)
        | some u =>
          rcases hO b with z | ⟨ob, xs, z⟩
          · rw [q] at z; cases z
          · have z2 := un.frzs b ob _ z
            obtain ⟨e1, _⟩ := hok b _ z
            obtain ⟨e2, _⟩ := hok' b _ z2
            rw [e] at e1; cases e1
            exact e2
  cases hk : K.lookup a with
  | some o =>
    -- the script is one of the module's own objects
    have e := KX a o hk
    rw [ha] at e
    cases e
    refine core (fun _ => none) (fun _ => .inl rfl) (.inr ⟨_, vs.toArray, _, hk, rfl, rfl, rfl, by rw [List.size_toArray, lenV]; exact hl, by simpa using rv⟩) (fun b u z => by have z' : (none : Option HO) = some u := z; cases z') (fun b z => absurd rfl z) fun z => absurd rfl z
  | none =>
    refine core (fun b => if b = a then some (.frz { cls := .type "list", data := .seq vs.toArray } (.lst (ns.map V.int))) else none) (fun b => ?_) (.inl (.inr ⟨{ cls := .type "list", data := .seq vs.toArray }, if_pos rfl⟩)) (fun b u z => ?_) (fun b z => ?_) fun _ => hk
    · by_cases hb : b = a
      · exact .inr ⟨_, _, if_pos hb⟩
      · exact .inl (if_neg hb)
    · by_cases hb : b = a
      · have z' := (if_pos hb).symm.trans z
        cases z'
        subst hb
        exact ⟨ha, by rw [List.length_map]; exact hl, vs, _, rv, ha⟩
      · have z' := (if_neg hb).symm.trans z
        cases z'
    · by_cases hb : b = a
      · exact hb
      · exact absurd (if_neg hb) z
end L2
namespace L2
open PySem PySem.Spec PyProof.Rows
abbrev KOf {K : PySem.W.Frag} {h : Heap} (_ : K.In h) : PySem.W.Frag := K
theorem walk_of {l : PySem.W.OpenLaw} {n k : Nat} {q : Program} {loose : List Str} {XP : (Str → Option Value) → Heap → Prop} {YP : World → Heap → Prop} {d : DefRec} {K : Params → PySem.W.Frag} {CX : World → CXT} {sp : World → Sp} {x : Str}
    (hn : l.most = some n) (hn2 : n ≤ sizeLine) (hdf : d.params.defaults = []) (hr : Room k callerA)
    (hY : ∀ (w : World) (h : Heap), YP w h → (K w.params).In h)
    (F : ∀ (w : World) (mg : Str → Option Value) (fa : Addr) (h : Heap), (K w.params).In h → h.Ns mainGlobals mg → mg d.name = some (.ref fa) →
      ∃ fd : FuncData, (∀ (s : Shared) (u : Value), BindsTo s fd ⟨[u], []⟩ [(x, u)]) ∧
        ∀ base : Heap, (K w.params).In base → base.Ns mainGlobals mg → FnOk l.prog w (K w.params) mg base (CX w) k fa fd [x] (sp w))
    (hsp : ∀ (w : World) (H : Hp) (a : Addr) (ns : List Int), ns.length ≤ n → Only H → SqL (K w.params) H a (ns.map V.int) → sp w [.ref a] H (fun v _ => v = .bl true) fun _ _ _ => False)
    (hCX : ∀ (w : World) (H : Hp) (s : Shared) (e : Value) (s' : Shared), CX w callerA.handled [] H s (fun _ _ _ => False) e s' → False) :
    PySem.W.WalkO q loose XP YP l.row.toRowW d [] (fun f vs => PySem.call f vs) := by
  refine Att.attach_call hn hdf fun w s₀ s₁ mg mb fa o pm cd doc a vs ns G Y ho hd hcd hmg hobj hints hlen hg => ?_
  have KX := hY w _ Y
  obtain ⟨fd, hb, hF⟩ := F w mg fa _ KX G.T.g hmg
  exact law_call KX G.T.g G.T.b G.T.builtins G.T.nolimit hg hobj hints (Nat.le_trans hlen hn2) hr hF hb (fun H hO hS => hsp w H a ns hlen hO hS) fun H e s' => hCX w H s₁ e s'
end L2
namespace L2
open PySem PySem.Spec PyProof.Rows
def defArgs (s : Stmt) : Arguments := match s with
  | .FunctionDef _ a _ _ _ _ _ _ _ _ => a
  | _ => { posonlyargs := [], args := [], vararg := none, kwonlyargs := [], kw_defaults := [], kwarg := none, defaults := [] }
def defBody (s : Stmt) : List Stmt := match s with
  | .FunctionDef _ _ b _ _ _ _ _ _ _ => b
  | _ => []
def defScope (s : Stmt) : Scope := match s with
  | .FunctionDef _ _ _ _ _ _ sc _ _ _ => sc
  | _ => { kind := .function, names := [], isGenerator := false, isCoroutine := false }
abbrev CX0 : CXT := fun _ _ _ _ _ _ _ => False
abbrev E0 : XK := fun _ _ _ => False
theorem pass0 {X : Cx} : Passes CX0 X E0 := fun _ _ _ _ _ _ _ h => h.elim
structure Fun (K : PySem.W.Frag) (x qual : Str) (st : Stmt) (f : Addr) (fd : FuncData) : Prop where
  ex : ∃ (oc : Value) (od : Option Addr) (kV doc pm : Value) (an : Option Addr) (cdv ct : Value) (osl : Array (Option Value)),
    fd = PySem.W.fnOf x qual (defArgs st) (defBody st) (defScope st) .none kV doc pm an cdv ct ∧ K.lookup f = some ⟨oc, od, .func fd, osl⟩ ∧ PySem.W.codeIn K cdv qual = true
  kp : PySem.W.keepIn K (.ref f) = true
section
variable {P : Program} {w : World} {K : PySem.W.Frag} {mg : Str → Option Value} {base : Heap}
theorem Fun.ok {x qual : Str} {st : Stmt} {f : Addr} {fd : FuncData} {N ps : List Str} {k : Nat} {sp : Sp} (F : Fun K x qual st f fd) (S : FnScope N ps (defScope st)) (len : ∀ vs H Q E, sp vs H Q E → vs.length = ps.length)
    (hbody : ∀ (cdv : Value) (A : Around) (outer : List Env) (s : Shared) (H : Hp) (vs : List V) (Q : VK) (E : XK), Room k (A.deeper (envOfC qual (defScope st) s.heap.objs.size f cdv)) → sp vs H Q E →
      ∃ t, PSs (cxOf CX0 P w K mg base N qual (defScope st) f cdv A outer s H E).nox (defBody st) t ∧ t { nx := fun _ H' => Q .non H', rt := Q } (start N vs) H) : FnOk P w K mg base CX0 (k + 1) f fd ps sp := by
  obtain ⟨oc, od, kV, doc, pm, an, cdv, ct, osl, rfl, lk, hcd⟩ := F.ex
  refine fn_of lk hcd S len fun A outer s H vs Q E hr hsp => ?_
  obtain ⟨t, h, q⟩ := hbody cdv A outer s H vs Q E hr hsp
  exact ⟨t, h.nox, q⟩
theorem Fun.binds {x qual : Str} {st : Stmt} {f : Addr} {fd : FuncData} {ps : List Str} (F : Fun K x qual st f fd)
    (h : ∀ (kV doc pm : Value) (an : Option Addr) (cdv ct : Value) (us : List Value), us.length = ps.length → bindArgs (PySem.W.fnOf x qual (defArgs st) (defBody st) (defScope st) .none kV doc pm an cdv ct) ⟨us, []⟩ = pure (ps.zip us)) : Binds K fd ps [] := by
  obtain ⟨oc, od, kV, doc, pm, an, cdv, ct, osl, rfl, lk, hcd⟩ := F.ex
  exact .all (h kV doc pm an cdv ct)
theorem fun_mk {x qual : Str} {st : Stmt} {f : Addr} {oc : Value} {od an : Option Addr} {osl : Array (Option Value)} {kV doc pm cdv ct : Value} (l : K.lookup f = some ⟨oc, od, .func (PySem.W.fnOf x qual (defArgs st) (defBody st) (defScope st) .none kV doc pm an cdv ct), osl⟩)
    (c : PySem.W.codeIn K cdv qual = true) (k : PySem.W.keepIn K (.ref f) = true) : Fun K x qual st f (PySem.W.fnOf x qual (defArgs st) (defBody st) (defScope st) .none kV doc pm an cdv ct) := ⟨⟨oc, od, kV, doc, pm, an, cdv, ct, osl, rfl, l, c⟩, k⟩
end
theorem hu_of {A : Around} {k : Nat} (hr : Room k A) : A.units + 1 < cLine := Nat.lt_of_le_of_lt (Nat.add_le_add_left (by decide : 1 ≤ 64) _) hr.units
section
variable {X : Cx}
theorem pv (i : Nat) {x : Str} {pos : Pos} (hN : X.N[i]? = some x := by rfl) (hv : Vis X.env.scope x := by first | exact Or.inl rfl | exact Or.inr (Or.inl rfl) | exact Or.inr (Or.inr rfl)) (hd : (x == ("__debug__" : Str)) = false := by decide)
    (hcd : (x == ("__classdict__" : Str)) = false := by decide) : PE X (.Name x pos) (tVar i) := pe_var hN hv hd hcd
end
theorem iteF {A B : Prop} (h : B) : if false = true then A else B := by
  rw [if_neg Bool.false_ne_true]
  exact h
theorem iteT {A B : Prop} (h : A) : if true = true then A else B := by
  rw [if_pos rfl]
  exact h
theorem ite2 {c A B : Prop} [Decidable c] (h1 : c → A) (h2 : ¬ c → B) : if c then A else B := by
  by_cases h : c
  · rw [if_pos h]
    exact h1 h
  · rw [if_neg h]
    exact h2 h
def Same (H H' : Hp) : Prop := ∀ b o, H b = some o → H' b = some o
theorem Same.refl (H : Hp) : Same H H := fun _ _ h => h
theorem Same.trans {H H1 H2 : Hp} (a : Same H H1) (b : Same H1 H2) : Same H H2 := fun c o h => b c o (a c o h)
theorem Same.free {H H' : Hp} (e : Same H H') {l : Addr} (h : H' l = Option.none) : H l = Option.none := by
  cases q : H l with
  | none => rfl
  | some o =>
    rw [e l o q] at h
    cases h
theorem Same.seq {K : PySem.W.Frag} {H H' : Hp} {a : Addr} {xs : List V} (e : Same H H') (h : SqL K H a xs) : SqL K H' a xs := by
  rcases h with (h | ⟨o, h⟩) | h
  · exact .inl (.inl (e _ _ h))
  · exact .inl (.inr ⟨o, e _ _ h⟩)
  · exact .inr h
end L2
namespace L2
open PySem PySem.Spec PyProof.Rows
section
variable {X : Cx}
end
section
variable {κ : Type} [DecidableEq κ]
theorem valV_in {kvs : List (κ × V)} {k : κ} {v : V} (h : valV kvs k = some v) : k ∈ kvs.map (·.1) := by
  have q : (kvs.any fun kv => decide (kv.1 = k)) = true := by
    rw [valV_any, h]
    all_goals rfl
  obtain ⟨p, hp, e⟩ := List.any_eq_true.mp q
  exact List.mem_map.mpr ⟨p, hp, of_decide_eq_true e⟩
end
end L2
end
section
namespace L3
open PySem PySem.Spec PyProof.Rows L2
def closedC (env : Env) : List (Str × NameKind) → List (Str × Addr) → List (Str × Addr)
  | [], cs => cs
  | (n, k) :: r, cs => closedC env r (if (k == .free) = true then (n, (env.cells.lookup n).getD 0) :: cs else cs)
theorem closedC_eq {env : Env} {scope : Scope} (h : ∀ x ∈ scope.names, x.2 = .free → ∃ c, env.cells.lookup x.1 = some c) : closureFor scope env = pure (closedC env scope.names []) := by
  unfold closureFor
  have go : ∀ (l : List (Str × NameKind)) (cs : List (Str × Addr)), (∀ x ∈ l, x.2 = .free → ∃ c, env.cells.lookup x.1 = some c) →
      (forIn l cs fun (x : Str × NameKind) (r : List (Str × Addr)) => if (x.2 == .free) = true then (do let a ← cellOf env x.1; pure (ForInStep.yield ((x.1, a) :: r))) else pure (ForInStep.yield r) : Sem (List (Str × Addr))) = pure (closedC env l cs) := by
    intro l
    induction l with
    | nil => intro cs _; rfl
    | cons x l ih =>
      intro cs hl
      obtain ⟨n, k⟩ := x
      have hr : ∀ y ∈ l, y.2 = .free → ∃ c, env.cells.lookup y.1 = some c := fun y hy => hl y (List.mem_cons_of_mem _ hy)
      rw [List.forIn_cons, closedC]
      by_cases hk : (k == NameKind.free) = true
      · obtain ⟨c, hc⟩ := hl (n, k) List.mem_cons_self (by simpa using hk)
        have hc : env.cells.lookup n = some c := hc
        have e : cellOf env n = pure c := by unfold cellOf; rw [hc]
        simp only [hk, if_true, e, pure_bind, hc, Option.getD_some]
        exact ih _ hr
      · simp only [hk, if_false, pure_bind]
        exact ih _ hr
  have q := go scope.names [] h
  simp only [bind_pure]
  exact q
theorem closedC_keep {env : Env} {x : Str} : ∀ (l : List (Str × NameKind)) (cs : List (Str × Addr)), (∃ c, cs.lookup x = some c) → ∃ c, (closedC env l cs).lookup x = some c
  | [], _, h => h
  | (n, k) :: r, cs, h => by
    rw [closedC]
    refine closedC_keep r _ ?_
    by_cases hk : (k == NameKind.free) = true
    · rw [if_pos hk, List.lookup_cons]
      cases x == n with
      | true => exact ⟨_, rfl⟩
      | false => exact h
    · rw [if_neg hk]; exact h
theorem closedC_has {env : Env} {x : Str} : ∀ (l : List (Str × NameKind)) (cs : List (Str × Addr)), (x, NameKind.free) ∈ l → ∃ c, (closedC env l cs).lookup x = some c
  | [], _, h => by cases h
  | (n, k) :: r, cs, h => by
    rw [closedC]
    rcases List.mem_cons.mp h with e | h
    · cases e
      refine closedC_keep r _ ?_
      rw [if_pos (by decide), List.lookup_cons, beq_self_eq_true]
      exact ⟨_, rfl⟩
    · exact closedC_has r _ h
theorem closedC_sound {env : Env} : ∀ (l : List (Str × NameKind)) (cs : List (Str × Addr)), (∀ x ∈ l, x.2 = .free → ∃ c, env.cells.lookup x.1 = some c) → (∀ x c, cs.lookup x = some c → env.cells.lookup x = some c) →
    ∀ x c, (closedC env l cs).lookup x = some c → env.cells.lookup x = some c
  | [], _, _, h => h
  | (n, k) :: r, cs, hl, h => by
    rw [closedC]
    refine closedC_sound r _ (fun y hy => hl y (List.mem_cons_of_mem _ hy)) fun x c e => ?_
    by_cases hk : (k == NameKind.free) = true
    · rw [if_pos hk, List.lookup_cons] at e
      cases hx : x == n with
      | true =>
        rw [hx] at e
        obtain rfl : x = n := by simpa using hx
        obtain ⟨c', hc'⟩ := hl (x, k) List.mem_cons_self (by simpa using hk)
        have hc' : env.cells.lookup x = some c' := hc'
        rw [hc'] at e ⊢
        exact e
      | false =>
        rw [hx] at e
        exact h x c e
    · rw [if_neg hk] at e
      exact h x c e
theorem relabel_free {env : Env} : ∀ {l : List (Str × NameKind)} {x : Str}, l.lookup x = some .free →
    (l.map fun (p : Str × NameKind) => if (p.2 == NameKind.free && env.scope.kind == .function && env.kindOf p.1 == some .cell) then (p.1, NameKind.cell) else (p.1, p.2)).lookup x = some .cell ∨
    (l.map fun (p : Str × NameKind) => if (p.2 == NameKind.free && env.scope.kind == .function && env.kindOf p.1 == some .cell) then (p.1, NameKind.cell) else (p.1, p.2)).lookup x = some .free
  | [], _, h => by simp at h
  | (n, k) :: r, x, h => by
    have ih := @relabel_free env r x
    rw [List.lookup_cons] at h
    rw [List.map_cons]
    by_cases hc : (k == NameKind.free && env.scope.kind == .function && env.kindOf n == some .cell) = true
    · simp only [hc, if_true]
      rw [List.lookup_cons]
      cases hx : x == n with
      | true => exact .inl rfl
      | false => rw [hx] at h; exact ih h
    · simp only [hc, Bool.false_eq_true, if_false]
      rw [List.lookup_cons]
      cases hx : x == n with
      | true => rw [hx] at h; exact .inr h
      | false => rw [hx] at h; exact ih h
theorem of_relabel {env : Env} : ∀ {l : List (Str × NameKind)} {x : Str}, (∀ y ∈ l, y.2 ≠ .cell) →
    ((l.map fun (p : Str × NameKind) => if (p.2 == NameKind.free && env.scope.kind == .function && env.kindOf p.1 == some .cell) then (p.1, NameKind.cell) else (p.1, p.2)).lookup x = some .cell ∨
    (l.map fun (p : Str × NameKind) => if (p.2 == NameKind.free && env.scope.kind == .function && env.kindOf p.1 == some .cell) then (p.1, NameKind.cell) else (p.1, p.2)).lookup x = some .free) → (x, NameKind.free) ∈ l
  | [], _, _, h => by simp at h
  | (n, k) :: r, x, hl, h => by
    have ih := @of_relabel env r x fun y hy => hl y (List.mem_cons_of_mem _ hy)
    rw [List.map_cons] at h
    by_cases hc : (k == NameKind.free && env.scope.kind == .function && env.kindOf n == some .cell) = true
    · simp only [hc, if_true] at h
      rw [List.lookup_cons] at h
      cases hx : x == n with
      | true =>
        obtain rfl : x = n := by simpa using hx
        have : k = .free := by simp only [Bool.and_eq_true] at hc; simpa using hc.1.1
        rw [this]
        exact List.mem_cons_self
      | false => rw [hx] at h; exact List.mem_cons_of_mem _ (ih h)
    · simp only [hc, Bool.false_eq_true, if_false] at h
      rw [List.lookup_cons] at h
      cases hx : x == n with
      | true =>
        rw [hx] at h
        obtain rfl : x = n := by simpa using hx
        rcases h with h | h
        · exact absurd (Option.some.inj h) (hl (x, k) List.mem_cons_self)
        · have : k = .free := Option.some.inj h
          rw [this]
          exact List.mem_cons_self
      | false => rw [hx] at h; exact List.mem_cons_of_mem _ (ih h)
abbrev blkEnv (X : Cx) (scope : Scope) (C : Addr) : Env := compEnvC scope (closedC X.env scope.names []) C X.env
abbrev blkCx (X : Cx) (N' : List Str) (scope : Scope) (s3 : Shared) (H3 : Hp) (fp : List Addr) : Cx :=
  { X with N := N', s₀ := s3, H₀ := H3, env := blkEnv X scope s3.heap.objs.size, outer := X.stack, stack := X.stack, ex := fp, fn := fun _ => false, pn := X.pn, xe := fun _ _ => False }
def blkSt (own : Nat) (fr : List Nat) (σ : L2.St) : L2.St := List.replicate own none ++ fr.map fun i => (σ[i]?).join
structure BlkScope (X : Cx) (N' : List Str) (own : Nat) (fr : List Nat) (scope : Scope) : Prop where
  kind : scope.kind = .function
  nocell : ∀ y ∈ scope.names, y.2 ≠ .cell
  loc : ∀ x ∈ scope.names, x.2 = .local → scope.names.lookup x.1 = some .local
  free : ∀ x ∈ scope.names, x.2 = .free → X.env.kindOf x.1 = some .cell ∨ X.env.kindOf x.1 = some .free
  len : N'.length = own + fr.length
  fr : ∀ j i, fr[j]? = some i → ∃ x, N'[own + j]? = some x ∧ X.N[i]? = some x ∧ scope.names.lookup x = some .free
theorem un_sameBut {fs ex : List Addr} {H H' : Hp} {h h1 h2 : Heap} {C : Addr} (u : Un fs ex H H' h h1) (hC : h.objs.size ≤ C) (hs : Heap.SameBut C h1 h2) : Un fs ex H H' h h2 := by
  have ne : ∀ b o, h.get? b = some o → b ≠ C := fun b o e => Nat.ne_of_lt (Nat.lt_of_lt_of_le (Heap.lt_size e) hC)
  refine ⟨fun b o e n hb hx => (hs.2 b (ne b o e)).trans (u.keep b o e n hb hx), fun b o e n hb hx => ?_, u.free, fun b o e hx => ?_, u.tups, u.frzs, u.tbls⟩
  · obtain ⟨sl, q⟩ := u.slot b o e n hb hx
    exact ⟨sl, (hs.2 b (ne b o e)).trans q⟩
  · obtain ⟨o', q⟩ := u.there b o e hx
    exact ⟨o', (hs.2 b (ne b o e)).trans q⟩
theorem hok_sameBut {P : Program} {w : World} {H : Hp} {h h2 : Heap} {C : Addr} (k : HOk P w H h) (hC : H C = none) (hs : Heap.SameBut C h h2) : HOk P w H h2 := fun b ob e => by
  refine (k b ob e).stay (fun c w' hc q => (hs.2 c ?_).trans q) (fun _ q => q) fun _ _ q => q
  rintro rfl
  rcases hc with rfl | hc
  · rw [hC] at e; cases e
  · rw [hC] at hc; cases hc
def PIf (Y : Cx) (ifs : List Expr) (tt : TT) : Prop :=
  ∀ (pins : List (Addr × Obj)) (s : Shared) (σ : L2.St) (H : Hp) (Q : Bool → Hp → Prop), Inv Y pins σ H s → tt σ H Q →
    wpAny (model Y.prog Y.w) Y.A (forIn ifs true fun c r => if r = true then do let ok ← isTrue c Y.env (eval c Y.env); pure (ForInStep.yield ok) else pure (ForInStep.yield r)) (TP Y pins σ Q) Y.xe s
def tYes : TT := fun _ H Q => Q true H
theorem pif_nil {Y : Cx} : PIf Y [] tYes := fun _ _ _ H _ I h => wpAny_tests_nil ⟨H, I, h⟩
section
variable {prog : Program} {w : World} {A : Around} {R : Result → Shared → Prop} {s : Shared}
theorem compLoop_go {elt target iter : Expr} {ifs : List Expr} {scope : Scope} {pos : Pos} {it acc : Value} {env : Env} (J : Nat → Shared → Prop)
    (turn : ∀ n s, J n s → wpAny (model prog w) A (pyNext it) (fun r s₁ => match r with
      | none => R (.ok .next) s₁
      | some v => wpAny (model prog w) A (letOwnedTupleGo target it v) (fun _ s₀ => wpAny (model prog w) A (assign target env v) (fun _ s₂ =>
          wpAny (model prog w) A (forIn ifs true fun c r => if r = true then do let ok ← isTrue c env (eval c env); pure (ForInStep.yield ok) else pure (ForInStep.yield r)) (fun ok s₃ =>
            if ok = true then wpAny (model prog w) A (eval elt env) (fun x s₄ =>
              wpAny (model prog w) A (call (.builtin "list.append") [acc, x]) (fun _ s₅ => ∃ m, m < n ∧ J m s₅) (fun _ _ => False) s₄) (fun _ _ => False) s₃
            else ∃ m, m < n ∧ J m s₃) (fun _ _ => False) s₂) (fun _ _ => False) s₀) (fun _ _ => False) s₁) (fun _ _ => False) s)
    (n : Nat) (h : J n s) :
    codeAny (model prog w) A (.compLoop (.ListComp elt [⟨target, iter, ifs, 0⟩] scope pos) 0 it acc env) R s := by
  refine codeAny_loop rfl J (fun n s hJ => ?_) n h
  show wpAny _ A ((compTurn (.ListComp elt [⟨target, iter, ifs, 0⟩] scope pos) 0 it acc env).onRaise (fun x => do noteFrame x env; theTreesLotGoes x)) _ _ s
  refine wpAny_noted ?_
  rw [compTurn_list]
  have no : ∀ {α : Type} {m : Sem α} {Q : α → Shared → Prop} {E' : Value → Shared → Prop} {s' : Shared}, wpAny (model prog w) A m Q (fun _ _ => False) s' → wpAny (model prog w) A m Q E' s' := fun hm => wpAny_mono hm (fun _ _ q => q) fun _ _ f => f.elim
  refine wpAny_bind (wpAny_standAt (wpAny_bind (no (wpAny_mono (turn n s hJ) (fun r s₁ h₁ => ?_) fun _ _ h' => h'))))
  cases r with
  | none => exact wpAny_pure h₁
  | some v =>
    refine wpAny_bind (no (wpAny_mono h₁ (fun _ s₀ h₀ => wpAny_bind (no (wpAny_mono h₀ (fun _ s₂ h₂ => wpAny_bind (no (wpAny_mono h₂ (fun ok s₃ h₃ => ?_) fun _ _ h' => h'))) fun _ _ h' => h'))) fun _ _ h' => h'))
    cases ok with
    | false => exact wpAny_pure ⟨rfl, h₃⟩
    | true =>
      exact wpAny_bind (wpAny_bind (no (wpAny_mono h₃ (fun x s₄ h₄ => wpAny_bind (no (wpAny_mono h₄ (fun _ s₅ h₅ => wpAny_pure (wpAny_pure ⟨rfl, h₅⟩)) fun _ _ h' => h'))) fun _ _ h' => h')))
end
def Own (own : Nat) (g : TG) : Prop := ∀ v σ H Q, g v σ H Q → g v σ H fun σ4 H4 => Q σ4 H4 ∧ σ4.length = σ.length ∧ ∀ i, own ≤ i → σ4[i]? = σ[i]?
theorem own_name {own i : Nat} (h : i < own) : Own own (gName i) := fun v σ H Q q => ⟨q, by simp, fun j hj => List.getElem?_set_ne (by omega)⟩
def tComp (own : Nat) (fr : List Nat) (wi : TI) (g : TG) (tt : TT) (te : TE) : TE := fun σ H Q => wi σ H fun J H1 => ∀ p, H1 p = none → ∃ W : Nat → Nat → List V → Hp → Prop,
  (∃ m, W 0 m [] (upd H1 p (.lst []))) ∧ ∀ i m acc H2, W i m acc H2 → (J.stop i H2 ∧ Q (.ref p) H2) ∨ (J.go i H2 ∧ ∀ x H3, J.yld i H2 x H3 → g x (blkSt own fr σ) H3 fun σ4 H4 => tt σ4 H4 fun ok H5 =>
    if ok = true then te σ4 H5 fun v H6 => H6 p = some (.lst acc) ∧ acc.length < sizeLine ∧ ∃ m', m' < m ∧ W (i + 1) m' (acc ++ [v]) (upd H6 p (.lst (acc ++ [v])))
    else ∃ m', m' < m ∧ W (i + 1) m' acc H5)
theorem blk_inv {X : Cx} {scope : Scope} {N' : List Str} {own : Nat} {fr : List Nat} {pins : List (Addr × Obj)} {σ : L2.St} {H3 : Hp} {s3 : Shared} {h4 : Heap} {fp : List Addr} {t4 : Nat} {m : Str → Option Value} (S : BlkScope X N' own fr scope)
    (I3 : Inv X pins σ H3 s3) (hfp : ∀ b ∈ fp, FpOk X pins H3 b ∧ b < s3.heap.objs.size) (keep : ∀ b o, s3.heap.get? b = some o → h4.get? b = some o) (hns : h4.Ns s3.heap.objs.size m) :
    Inv (blkCx X N' scope s3 H3 fp) [] (blkSt own fr σ) H3 { s3 with heap := h4, toks := t4 } := by
  have hcs : ∀ x ∈ scope.names, x.2 = .free → ∃ c, X.env.cells.lookup x.1 = some c := fun x hx e => I3.ok.has x.1 (S.free x hx e)
  have snd : ∀ x c, (closedC X.env scope.names []).lookup x = some c → X.env.cells.lookup x = some c := closedC_sound _ _ hcs fun x c e => by simp at e
  have ok : (blkCx X N' scope s3 H3 fp).Ok := by
    refine ⟨I3.ok.mod, S.kind, I3.ok.glob, I3.ok.blt, Nat.le_refl _, fun x y c e1 e2 => I3.ok.inj x y c (snd x c e1) (snd y c e2), fun x hx => closedC_has _ _ (of_relabel S.nocell hx), fun x c z => (by cases z), I3.ok.hd, I3.ok.frames, .inl rfl,
      fun b hb => ⟨Nat.ne_of_lt (hfp b hb).2, fun x c e => (hfp b hb).1.2.2.2.2.1 x c (snd x c e)⟩, I3.bs, Nat.le_trans I3.ok.bsz I3.sz, fun b o e hb => ?_, fun b hb hz => ?_, I3.stack, I3.stkFree⟩
    · rcases (hfp b hb).1.2.2.2.1 with z | z
      · exact I3.ok.noex b o e z
      · exact absurd (Nat.lt_of_lt_of_le (Heap.lt_size e) I3.ok.bsz) (Nat.not_lt.mpr z)
    · rcases List.mem_cons.mp (I3.stkSub b hz) with z | z
      · exact (hfp b hb).1.2.1 z
      · exact (hfp b hb).1.2.2.1 z
  refine ⟨ok, rfl, I3.bare, Un.kept keep, ⟨m, hns, fun i x v h1 h2 h3 => ?_⟩, fun x c e => ?_, I3.hok.fresh (Nat.le_refl _), fun x c e => I3.freeC x c (snd x c e), fun p hp => ?_, I3.hok.kept keep, ?_⟩
  · have h1 : N'[i]? = some x := h1
    have hi : ¬ i < own := fun z => by
      unfold blkSt at h2
      rw [List.getElem?_append_left (by simpa using z), List.getElem?_replicate] at h2
      split at h2 <;> cases h2
    obtain ⟨j, rfl⟩ : ∃ j, i = own + j := ⟨i - own, by omega⟩
    unfold blkSt at h2
    rw [List.getElem?_append_right (by simp), List.length_replicate, Nat.add_sub_cancel_left, List.getElem?_map] at h2
    cases ek : fr[j]? with
    | none => rw [ek] at h2; cases h2
    | some k =>
      rw [ek] at h2
      have h2 : (σ[k]?).join = some v := Option.some.inj h2
      have hσ : σ[k]? = some (some v) := by
        cases q : σ[k]? with
        | none => rw [q] at h2; cases h2
        | some w' => rw [q] at h2; exact congrArg some h2
      obtain ⟨x', e1, e2, e3⟩ := S.fr j k ek
      rw [h1] at e1
      cases e1
      have mem := PySem.mem_of_lookup e3
      have hk := S.free _ mem rfl
      obtain ⟨m3, hn3, hl3⟩ := I3.loc
      obtain ⟨u, r, look⟩ := hl3 k x v e2 hσ (.inr hk)
      rcases look with ⟨q, _⟩ | ⟨q, c, hc, o, ho, hd⟩
      · rcases hk with z | z
        · have z : X.env.kindOf x = some .cell := z
          rw [z] at q; cases q
        · have z : X.env.kindOf x = some .free := z
          rw [z] at q; cases q
      · obtain ⟨c', e'⟩ := closedC_has (env := X.env) scope.names [] mem
        have e'' := snd x c' e'
        rw [hc] at e''
        cases e''
        exact ⟨u, r, .inr ⟨relabel_free e3, c, e', o, keep _ _ ho, hd⟩⟩
  · obtain ⟨v, o, ho, hd⟩ := I3.cell x c (snd x c e)
    exact ⟨v, o, keep _ _ ho, hd⟩
  · obtain ⟨q1, q2, q3, q4, q5⟩ := I3.pin p (List.mem_append_left _ (by simpa using hp))
    refine ⟨keep _ _ q1, q2, Nat.ne_of_lt (Heap.lt_size q1), fun z => ?_, q5⟩
    rcases List.mem_cons.mp (I3.stkSub _ z) with z | z
    · exact q3 z
    · exact q4 z
  · show (blkSt own fr σ).length = N'.length
    unfold blkSt
    rw [S.len, List.length_append, List.length_replicate, List.length_map]
theorem pe_comp {X : Cx} {tg iter elt : Expr} {ifs : List Expr} {scope : Scope} {pos : Pos} {wi : TI} {g : TG} {tt : TT} {te : TE} {N' : List Str} {own : Nat} {fr : List Nat} (hc : X.calm = true)
    (S : BlkScope X N' own fr scope) (hi : PI X tg iter wi) (ho : Own own g) (hg : ∀ s3 H3 fp, PG (blkCx X N' scope s3 H3 fp) tg g) (hf : ∀ s3 H3 fp, PIf (blkCx X N' scope s3 H3 fp) ifs tt) (he : ∀ s3 H3 fp, PE (blkCx X N' scope s3 H3 fp) elt te)
    (hs : ∀ x, foldedSetIterable iter X.env x = pure x := by intro _; rfl) : PE X (.ListComp elt [⟨tg, iter, ifs, 0⟩] scope pos) (tComp own fr wi g tt te) := by
  intro pins s σ H Q I h
  have hcs : ∀ x ∈ scope.names, x.2 = .free → ∃ c, X.env.cells.lookup x.1 = some c := fun x hx e => I.ok.has x.1 (S.free x hx e)
  rw [eval_ListComp]
  refine wpAny_comprehension_free (use := none) rfl hs (closedC_eq hcs) S.kind S.loc ?_
  refine thn (hi pins s σ H _ I h) fun v s1 h1 => thn h1 fun itv s2 h2 => ?_
  obtain ⟨it, fp, tn, J, H2, e, I2, T, st2, f2, h2⟩ := h2
  subst e
  refine wpAny_newObj_type (hd := by size_fits) (wpAny_newFunctionEnv S.nocell (by intro y hy; simp at hy) (fun h4 hns hsb => ?_) S.kind)
  have hp0 := I2.hok.fresh (Nat.le_refl s2.heap.objs.size)
  obtain ⟨W, ⟨m0, w0⟩, turn⟩ := h2 _ hp0
  have I3 : Inv X pins σ (upd H2 s2.heap.objs.size (.lst [])) { s2 with heap := s2.heap.push { cls := .type "list", dict := none, data := .seq ([] : List Value).toArray }, toks := s2.toks } := I2.lnew .nil (Nat.zero_le _)
  have lt2 : ∀ b ∈ fp, b < s2.heap.objs.size := fun b hb => let ⟨o, e, _⟩ := T.obj _ _ st2 b hb; Heap.lt_size e
  have up2 : ∀ b o, s2.heap.get? b = some o → ∀ ob : Obj, (s2.heap.push ob).get? b = some o := fun b o e ob => Heap.get?_push_of_some _ e
  have sz3 : (s2.heap.push { cls := .type "list", dict := none, data := .seq ([] : List Value).toArray }).objs.size = s2.heap.objs.size + 1 := Heap.size_push ..
  revert hns hsb I3
  generalize e3 : s2.heap.push { cls := .type "list", dict := none, data := .seq ([] : List Value).toArray } = h3 at sz3 ⊢
  intro hns hsb I3
  have keep : ∀ b o, h3.get? b = some o → h4.get? b = some o := fun b o e => (hsb.2 b (Nat.ne_of_lt (Heap.lt_size e))).trans (Heap.get?_push_of_some _ e)
  have fp3 : ∀ b ∈ fp, FpOk X pins (upd H2 s2.heap.objs.size (.lst [])) b ∧ b < h3.objs.size := fun b hb => by
    refine ⟨⟨?_, (f2 b hb).2⟩, by rw [sz3]; exact Nat.lt_succ_of_lt (lt2 b hb)⟩
    rw [upd_ne (Nat.ne_of_lt (lt2 b hb))]
    exact (f2 b hb).1
  have I4 := blk_inv (t4 := s2.toks + ([] : List (Str × Value)).length) S I3 fp3 keep hns
  have tn4 : tn 0 h4 := T.keep _ _ _ st2 fun b hb o e => keep b o (by rw [← e3]; exact up2 b o e _)
  have stat : ∀ {H' : Hp}, (∀ b ∈ fp, H' b = none) → ∀ b ∈ fp, FpOk (blkCx X N' scope { s2 with heap := h3, toks := s2.toks } (upd H2 s2.heap.objs.size (.lst [])) fp) [] H' b := fun {H'} hn b hb =>
    ⟨hn b hb, Nat.ne_of_lt (fp3 b hb).2, fun z => I4.ok.exfs b hb z, .inl hb, (I4.ok.exf b hb).2, fun p hp => (f2 b hb).2.2.2.2.2 p (List.mem_append_left _ (by simpa using hp))⟩
  have loop : ∀ sx : Shared, Inv (blkCx X N' scope { s2 with heap := h3, toks := s2.toks } (upd H2 s2.heap.objs.size (.lst [])) fp) [] (blkSt own fr σ) (upd H2 s2.heap.objs.size (.lst [])) sx → tn 0 sx.heap →
      codeAny (model X.prog X.w) X.A (.compLoop (.ListComp elt [⟨tg, iter, ifs, 0⟩] scope pos) 0 (.ref it) (.ref s2.heap.objs.size) (blkEnv X scope h3.objs.size)) (compPost (model X.prog X.w) X.A X.xe none (EP X pins σ Q) (.ref s2.heap.objs.size) h3.objs.size) sx := by
    intro sx Ix tx
    refine compLoop_go (fun n s' => ∃ i acc H', Inv (blkCx X N' scope { s2 with heap := h3, toks := s2.toks } (upd H2 s2.heap.objs.size (.lst [])) fp) [] (blkSt own fr σ) H' s' ∧ tn i s'.heap ∧ (∀ b ∈ fp, H' b = none) ∧ W i n acc H') ?_ m0 ⟨0, [], _, Ix, tx, fun b hb => (fp3 b hb).1.1, w0⟩
    rintro n s5 ⟨i, acc, H5, I5, st5, fr5, w5⟩
    rcases turn i n acc H5 w5 with ⟨stop, qn⟩ | ⟨go, step⟩
    · refine thn (T.done (blkCx X N' scope { s2 with heap := h3, toks := s2.toks } (upd H2 s2.heap.objs.size (.lst [])) fp) rfl rfl rfl hc i [] s5 _ H5 (fun _ _ => False) I5 (stat fr5) st5 stop) fun r s6 ⟨hr, I6⟩ => ?_
      subst hr
      obtain ⟨m6, hm6, _⟩ := id I6.loc
      refine ⟨m6, hm6, fun h7 hs7 => ⟨.ref s2.heap.objs.size, H5, ?_, rfl, qn⟩⟩
      exact I3.call' (s' := { s6 with heap := h7 }) (ch := fp) I6.os (un_sameBut I6.base (Nat.le_refl _) hs7) (hok_sameBut I6.hok I6.free hs7) I6.bare fun b hb => ⟨(f2 b hb).2.2.2.1, (f2 b hb).2.1, (f2 b hb).2.2.2.2.1, (f2 b hb).2.2.2.2.2⟩
    · refine thn (T.item (blkCx X N' scope { s2 with heap := h3, toks := s2.toks } (upd H2 s2.heap.objs.size (.lst [])) fp) rfl rfl rfl hc i [] s5 _ H5 (fun _ _ => False) I5 (stat fr5) st5 go) fun r s6 ⟨u, hr, h6⟩ => ?_
      subst hr
      refine thn h6 fun _ s7 ⟨x, H7, I7, r7, y7, st7, fr7⟩ => ?_
      have I7' := I7.pinned (stat fr7) (T.obj _ _ st7)
      refine thn (hg _ _ _ _ s7 _ H7 x u _ I7' r7 (ho _ _ _ _ (step x H7 y7))) fun _ s8 ⟨σ8, H8, I8, q8, l8, k8⟩ => ?_
      have again : ∀ {H9 : Hp} {s9 : Shared}, Inv (blkCx X N' scope { s2 with heap := h3, toks := s2.toks } (upd H2 s2.heap.objs.size (.lst [])) fp) ([] ++ pinsAt fp s7.heap) σ8 H9 s9 →
          Inv (blkCx X N' scope { s2 with heap := h3, toks := s2.toks } (upd H2 s2.heap.objs.size (.lst [])) fp) [] (blkSt own fr σ) H9 s9 ∧ tn (i + 1) s9.heap ∧ ∀ b ∈ fp, H9 b = none := fun {H9 s9} I9 => by
        refine ⟨I9.unpinned.weak l8.symm fun j v e => ?_, T.keep _ _ _ st7 fun b hb o e => (I9.pin (b, o) (List.mem_append_right _ (List.mem_append_right _ (mem_pinsAt hb e)))).1, fun b hb => ?_⟩
        · have hj : own ≤ j := by
            refine Nat.le_of_not_lt fun z => ?_
            unfold blkSt at e
            rw [List.getElem?_append_left (by simpa using z), List.getElem?_replicate] at e
            split at e <;> cases e
          rw [k8 j hj]
          exact e
        · obtain ⟨o, e, _⟩ := T.obj _ _ st7 b hb
          exact (I9.pin (b, o) (List.mem_append_right _ (List.mem_append_right _ (mem_pinsAt hb e)))).2.1
      refine thn (hf _ _ _ _ s8 σ8 H8 _ I8 q8) fun ok s9 ⟨H9, I9, q9⟩ => ?_
      cases ok with
      | false =>
        obtain ⟨m', hm', w9⟩ := q9
        obtain ⟨a1, a2, a3⟩ := again I9
        exact ⟨m', hm', i + 1, acc, H9, a1, a2, a3, w9⟩
      | true =>
        refine thn (he _ _ _ _ s9 σ8 H9 _ I9 q9) fun y s10 ⟨v, H10, I10, r10, hD10, hl10, m', hm', w10⟩ => ?_
        refine thn (mt_append _ s10 σ8 H10 (.ref s2.heap.objs.size) [v] (.ref s2.heap.objs.size) [y] (fun _ Hn => Hn = upd H10 s2.heap.objs.size (.lst (acc ++ [v]))) I10 rfl (.cons r10 .nil) ⟨_, acc, v, rfl, rfl, hD10, hl10, rfl⟩) fun _ s11 ⟨_, H11, I11, _, e11⟩ => ?_
        subst e11
        obtain ⟨a1, a2, a3⟩ := again I11
        exact ⟨m', hm', i + 1, acc ++ [v], _, a1, a2, a3, w10⟩
  exact codeAny_compStart_list (loop _ I4 tn4) (wpAny_mono (T.self X.A 0 _ (fun v s' => v = .ref it ∧ s' = _) (fun _ _ => False) tn4 ⟨rfl, rfl⟩) (fun v s' ⟨e1, e2⟩ => by subst e1; subst e2; exact loop _ I4 tn4) fun _ _ f => f.elim)
def Nx (n i : Nat) (P : Prop) : Prop := ∃ m', m' < n - i ∧ m' = n - (i + 1) ∧ i + 1 ≤ n ∧ P
theorem nx {n i : Nat} {P : Prop} (h : i < n) (p : P) : Nx n i P := ⟨n - (i + 1), by omega, rfl, h, p⟩
theorem comp_by {J : It} {p : Addr} {H1 : Hp} {g : TG} {tt : TT} {te : TE} {b : L2.St} {Q : VK} (n : Nat) (Pv : Nat → List V → Hp → Prop) (h0 : Pv 0 [] (upd H1 p (.lst [])))
    (hgo : ∀ i acc H2, i < n → Pv i acc H2 → J.go i H2 ∧ ∀ x H3, J.yld i H2 x H3 → g x b H3 fun σ4 H4 => tt σ4 H4 fun ok H5 =>
      if ok = true then te σ4 H5 fun v H6 => H6 p = some (.lst acc) ∧ acc.length < sizeLine ∧ Nx n i (Pv (i + 1) (acc ++ [v]) (upd H6 p (.lst (acc ++ [v])))) else Nx n i (Pv (i + 1) acc H5))
    (hd : ∀ acc H2, Pv n acc H2 → J.stop n H2 ∧ Q (.ref p) H2) :
    ∃ W : Nat → Nat → List V → Hp → Prop, (∃ m, W 0 m [] (upd H1 p (.lst []))) ∧ ∀ i m acc H2, W i m acc H2 → (J.stop i H2 ∧ Q (.ref p) H2) ∨ (J.go i H2 ∧ ∀ x H3, J.yld i H2 x H3 → g x b H3 fun σ4 H4 => tt σ4 H4 fun ok H5 =>
      if ok = true then te σ4 H5 fun v H6 => H6 p = some (.lst acc) ∧ acc.length < sizeLine ∧ ∃ m', m' < m ∧ W (i + 1) m' (acc ++ [v]) (upd H6 p (.lst (acc ++ [v]))) else ∃ m', m' < m ∧ W (i + 1) m' acc H5) := by
  refine ⟨fun i m acc H => m = n - i ∧ i ≤ n ∧ Pv i acc H, ⟨n, by simp, Nat.zero_le _, h0⟩, ?_⟩
  rintro i m acc H2 ⟨rfl, hi, w⟩
  by_cases hlt : i < n
  · exact .inr (hgo i acc H2 hlt w)
  · obtain rfl : i = n := by omega
    exact .inl (hd acc H2 w)
end L3
end
section
namespace L3
open PySem L2
section
variable {prog : Program} {w : World} {A : Around} {E : Value → Shared → Prop} {s : Shared}
end
section
variable {prog : Program} {w : World} {A : Around} {E : Value → Shared → Prop} {s : Shared}
variable {z TI TO i1 i2 : Addr} {f1 f2 : List Addr} {n1 n2 : Nat} {P1 P2 : Nat → Value → Prop} {S1 S2 : Nat → Heap → Prop}
end
section
variable {prog : Program} {w : World} {A : Around} {E : Value → Shared → Prop} {s : Shared}
end
end L3
end
section
namespace L3
open PySem PySem.Spec PyProof.Rows L2
section
variable {X : Cx} {pins : List (Addr × Obj)} {σ : L2.St} {H : Hp} {s : Shared} {h' : Heap}
end
structure ZRec (a b z TI TO i1 i2 : Addr) (i : Nat) (h : Heap) : Prop where
  z : IsZip h z TI TO .none
  TI : IsPair h TI (.ref i1) (.ref i2)
  TO : ∃ u v, IsPair h TO u v
  i1 : h.IsTupleIter i1 a i
  i2 : h.IsTupleIter i2 b i
end L3
end
section
namespace L3
open PySem PySem.Spec PyProof.Rows L2
section
variable {X : Cx}
theorem call_isinst : CallR X (.builtin "isinstance") (fun xs H Q => ∃ x t n b, xs = [x, .ty n] ∧ TyOf X.K H x t ∧ PySem.W.kitOne X.K t (.type n) = some b ∧ Q (.bl b) H) := by
  intro pins s σ H xs us Q I r h
  obtain ⟨x, t, n, b, rfl, ty, e, q⟩ := h
  obtain ⟨u, v, rfl, ru, rv⟩ := r.two
  obtain rfl : v = Value.type n := rv
  exact isinst_ok I ru ty e fun tk => ⟨.bl b, H, I.tok tk, rfl, q⟩
end
structure TabK (K : PySem.W.Frag) (a : Addr) (D : List (Str × V)) : Prop where
  sys : (a == sysModules) = false
  ex : ∃ o es ep, K.lookup a = some o ∧ o.ExactDict ∧ o.data = .dict es ep ∧ KTD.Rows RelV es.toList D
section
variable {X : Cx} {pins : List (Addr × Obj)} {σ : L2.St} {H : Hp} {s : Shared} {a : Addr} {D : List (Str × V)} {k : Str} {tk : Tok} {A : Around} {E : Value → Shared → Prop}
theorem TabK.typeIs (T : TabK X.K a D) (I : Inv X pins σ H s) : s.TypeIs (.ref a) "dict" := let ⟨o, _, _, e, x, _⟩ := T.ex; ⟨o, I.kIn a o e, x.1⟩
theorem tab_get {Q : Option Value → Shared → Prop} (T : TabK X.K a D) (I : Inv X pins σ H s) (h1 : ∀ v u, KTD.datumAt k D = some v → RelV v u → Q (some u) { s with toks := s.toks + 1 })
    (h2 : KTD.datumAt k D = none → Q none { s with toks := s.toks + 1 }) : wpAny (model X.prog X.w) A (dictGet a (.str k tk)) Q E s := by
  obtain ⟨_, o, es, ep, ek, _, ed, er⟩ := T
  have eo := I.kIn a o ek
  unfold dictGet
  try with_reducible refine wpAny_holding ?_
  have ea : (es.all fun e => isExactStrKey e.key) = true := by
    obtain ⟨l⟩ := es
    simpa using er.exact
  refine wpAny_bind (wpAny_pyHash_str (wpAny_bind (KTD.kt_dictFind_strs (s := { s with toks := s.toks + 1 }) eo ed ea ?_)))
  have fq : Q (findBy (fun k v => v.isStr k) es k) { s with toks := s.toks + 1 } := by
    have ef : findBy (fun k v => v.isStr k) es k = (es.toList.find? fun e => e.key.isStr k).map (·.val) := by
      obtain ⟨l⟩ := es
      simp [findBy]
    rw [ef]
    cases hat : KTD.datumAt k D with
    | some d =>
      obtain ⟨v, hv, hr⟩ := er.find_some hat
      rw [hv]
      exact h1 d v hat hr
    | none =>
      rw [er.find_none hat]
      exact h2 hat
  rw [findBy_of_findIdx?] at fq
  cases hi : es.findIdx? fun e => e.key.isStr k with
  | none => rw [hi] at fq; exact wpAny_pure fq
  | some i => rw [hi] at fq; exact wpAny_bind (wpAny_dictEntries (s := { s with toks := s.toks + 1 }) eo ed (wpAny_pure fq))
end
section
variable {X : Cx}
end
end L3
end
section
namespace KM
open PySem
inductive D where
  | non
  | bl (b : Bool)
  | int (i : Int)
  | str (x : Str)
  | tup (ds : List D)
deriving Inhabited
mutual
def knots : D → Nat
  | .tup ds => 1 + knotsL ds
  | .non => 0
  | .bl _ => 0
  | .int _ => 0
  | .str _ => 0
def knotsL : List D → Nat
  | [] => 0
  | d :: r => knots d + knotsL r
end
mutual
def depth : D → Nat
  | .tup ds => 1 + depthL ds
  | .non => 0
  | .bl _ => 0
  | .int _ => 0
  | .str _ => 0
def depthL : List D → Nat
  | [] => 0
  | d :: r => max (depth d) (depthL r)
end
def isTup : D → Bool
  | .tup _ => true
  | _ => false
def tk : D → List D
  | .tup ds => ds.filter isTup
  | _ => []
end KM
end
section
namespace L3
open PySem PySem.Spec PyProof.Rows L2 KM
mutual
/-- v stands for d on the heap H -/
def Rep (H : Hp) : D → V → Prop
  | .non, v => v = .non
  | .bl b, v => v = .bl b
  | .int i, v => v = .int i
  | .str x, v => v = .str x ∧ x.length ≤ 1000
  | .tup ds, v => ∃ a vs, v = .ref a ∧ H a = some (.tup vs) ∧ Reps H ds vs
def Reps (H : Hp) : List D → List V → Prop
  | [], vs => vs = []
  | d :: ds, vs => ∃ v r, vs = v :: r ∧ Rep H d v ∧ Reps H ds r
end
mutual
theorem Rep.mono {H H' : Hp} (h : Same H H') : ∀ {d : D} {v : V}, Rep H d v → Rep H' d v
  | .non, _, r => r
  | .bl _, _, r => r
  | .int _, _, r => r
  | .str _, _, r => r
  | .tup _, _, ⟨a, vs, e, q, r⟩ => ⟨a, vs, e, h _ _ q, Reps.mono h r⟩
theorem Reps.mono {H H' : Hp} (h : Same H H') : ∀ {ds : List D} {vs : List V}, Reps H ds vs → Reps H' ds vs
  | [], _, r => r
  | _ :: _, _, ⟨v, r, e, q, t⟩ => ⟨v, r, e, Rep.mono h q, Reps.mono h t⟩
end
theorem Reps.length {H : Hp} : ∀ {ds : List D} {vs : List V}, Reps H ds vs → vs.length = ds.length
  | [], _, r => by
    have r : _ = [] := r
    rw [r]; rfl
  | _ :: _, _, ⟨v, r, e, q, t⟩ => by
    rw [e, List.length_cons, List.length_cons, Reps.length t]
theorem Reps.get {H : Hp} : ∀ {ds : List D} {vs : List V} {i : Nat} {d : D}, Reps H ds vs → ds[i]? = some d → ∃ v, vs[i]? = some v ∧ Rep H d v
  | [], _, _, _, _, e => by simp at e
  | d :: _, _, 0, _, ⟨v, r, e, q, t⟩, h => by
    simp at h
    subst h
    exact ⟨v, by rw [e]; rfl, q⟩
  | _ :: ds, _, i + 1, d, ⟨v, r, e, q, t⟩, h => by
    obtain ⟨u, h1, h2⟩ := Reps.get (i := i) t (by simpa using h)
    exact ⟨u, by rw [e]; simpa using h1, h2⟩
theorem Reps.drop {H : Hp} : ∀ {ds : List D} {vs : List V} (n : Nat), Reps H ds vs → Reps H (ds.drop n) (vs.drop n)
  | _, _, 0, r => r
  | [], _, n + 1, r => by
    have r : _ = [] := r
    subst r
    exact rfl
  | _ :: _, _, n + 1, ⟨v, r, e, q, t⟩ => by
    subst e
    exact Reps.drop n t
theorem Reps.append {H : Hp} : ∀ {ds es : List D} {vs us : List V}, Reps H ds vs → Reps H es us → Reps H (ds ++ es) (vs ++ us)
  | [], _, _, _, r, q => by
    have r : _ = [] := r
    subst r
    exact q
  | _ :: _, _, _, _, ⟨v, r, e, p, t⟩, q => by
    subst e
    exact ⟨v, r ++ _, rfl, p, Reps.append t q⟩
theorem Reps.one {H : Hp} {d : D} {v : V} (r : Rep H d v) : Reps H [d] [v] := ⟨v, [], rfl, r, rfl⟩
theorem Reps.snoc {H : Hp} {ds : List D} {vs : List V} {d : D} {v : V} (r : Reps H ds vs) (q : Rep H d v) : Reps H (ds ++ [d]) (vs ++ [v]) := r.append (Reps.one q)
def tyD : D → String
  | .non => "NoneType"
  | .bl _ => "bool"
  | .int _ => "int"
  | .str _ => "str"
  | .tup _ => "tuple"
theorem Rep.ty {K : PySem.W.Frag} {H : Hp} : ∀ {d : D} {v : V}, Rep H d v → TyOf K H v (.type (tyD d))
  | .non, _, r => by cases (show _ = V.non from r); exact .non
  | .bl b, _, r => by cases (show _ = V.bl b from r); exact .bl b
  | .int i, _, r => by cases (show _ = V.int i from r); exact .int i
  | .str x, _, r => by cases (show _ = V.str x from r.1); exact .str x
  | .tup _, _, ⟨a, vs, e, q, _⟩ => by cases e; exact .tup q
def isStrD : D → Bool
  | .str _ => true
  | _ => false
theorem kit_str (K : PySem.W.Frag) (d : D) : PySem.W.kitOne K (.type (tyD d)) (.type "str") = some (isStrD d) := by cases d <;> rfl
theorem same_new {H : Hp} {p : Addr} (h : H p = none) (o : HO) : Same H (upd H p o) := fun b u q => by rw [upd_ne (ne_of_none q h)]; exact q
end L3
end
section
namespace L3
open PySem PySem.Spec PyProof.Rows L2
def tSlS (te : TE) (tl th ts : TO) : TE := fun σ H Q => te σ H fun x H1 => tl σ H1 fun _ H2 => th σ H2 fun _ H3 => ts σ H3 fun st H4 => ∃ z, x = .str z ∧ z.length ≤ sizeLine ∧ st ≠ some 0 ∧ ∀ y : Str, y.length ≤ z.length → Q (.str y) H4
theorem part_of {u : Value} {o : Option Int} (p : IsPart u o) : ∃ q : Option (Int × Tok), u = partValue q ∧ q.map (·.1) = o := by
  cases p with
  | none => exact ⟨none, rfl, rfl⟩
  | int i t => exact ⟨some (i, t), rfl, rfl⟩
theorem pe_slS {X : Cx} {e : Expr} {lo hi st : Option Expr} {p2 pos : Pos} {te : TE} {tl th ts : TO} (he : PE X e te) (hl : PO X lo tl) (hu : PO X hi th) (ht : PO X st ts)
    (hb : ∀ o i, ∃ ops, subscripted (.Slice lo hi st p2) false o i = operate ops (getItem o i) := by intro o i; exact ⟨_, rfl⟩) : PE X (.Subscript e (.Slice lo hi st p2) pos) (tSlS te tl th ts) := by
  intro pins s σ H Q I h
  refine Subscript_ (thn (he pins s σ H _ I h) fun v s1 ⟨x, H1, I1, r1, q1⟩ => ?_)
  refine wpAny_Slice (thn (hl pins s1 σ H1 _ I1 q1) fun vl s2 ⟨l, H2, I2, pl, q2⟩ => thn (hu pins s2 σ H2 _ I2 q2) fun vu s3 ⟨u, H3, I3, pu, q3⟩ => thn (ht pins s3 σ H3 _ I3 q3) fun vt s4 ⟨t, H4, I4, pt, z, e1, hz, h0, q⟩ => ?_)
  subst e1
  obtain ⟨tk, rfl⟩ := r1
  obtain ⟨al, rfl, el⟩ := part_of pl
  obtain ⟨au, rfl, eu⟩ := part_of pu
  obtain ⟨at', rfl, et⟩ := part_of pt
  have I5 : Inv X pins σ H4 { s4 with heap := s4.heap.push { cls := .type "slice", data := .fields #[partValue al, partValue au, partValue at'] } } := I4.kept (t' := s4.toks) fun b ob q => Heap.get?_push_of_some _ q
  have hk : ((at'.map (·.1)).getD 1 == 0) = false := by
    rw [et]
    cases t with
    | none => rfl
    | some i => simpa using fun z => h0 (by rw [z])
  show wpAny (model X.prog X.w) X.A (subscriptTail e (.Slice lo hi st p2) (.str z tk) (.ref s4.heap.objs.size)) (EP X pins σ Q) X.xe _
  obtain ⟨ops, hb⟩ := hb (.str z tk) (.ref s4.heap.objs.size)
  refine tail_any (ops := ops) (T := "str") (typeIs_str _ _ _) PySem.F.slot_str_getitem.lookup (wpAny_getItem_str_slice (l := al) (u := au) (st := at') ⟨_, Heap.get?_push_size _ rfl, rfl, rfl⟩ hk ?_) hb
  have fin : ∀ y : Str, y.length ≤ z.length → ∀ t' k, EP X pins σ Q (.str y t') { s4 with heap := s4.heap.push { cls := .type "slice", data := .fields #[partValue al, partValue au, partValue at'] }, toks := k } := fun y hy t' k => ⟨.str y, H4, I5.tok k, ⟨t', rfl⟩, q y hy⟩
  unfold sliceMade
  split
  · exact fin z (Nat.le_refl _) _ _
  · have hy : (Str.mk ((slicePicked z al au at').filterMap (z.cps[·]?)).toArray).length ≤ z.length := by
      show (List.filterMap _ (slicePicked z al au at')).toArray.size ≤ z.length
      rw [List.size_toArray]
      refine Nat.le_trans (List.length_filterMap_le _ _) ?_
      exact sliceIndicesBy_le _ _ _ (by simpa using hk) z.length
    exact ⟨Nat.le_trans hy hz, fin _ hy _ _⟩
end L3
end
section
namespace L3
open PySem PySem.Spec PyProof.Rows L2
def tCut (t u : TS) : TS := fun D σ H => ∃ M : L2.St → Hp → Prop, t { D with nx := M } σ H ∧ ∀ σ' H', M σ' H' → u D σ' H'
theorem pss_cut {X : Cx} {st : Stmt} {rest : List Stmt} {t u : TS} (h1 : PS X st t) (h2 : PSs X rest u) : PSs X (st :: rest) (tCut t u) := by
  intro pins s σ H D I h
  obtain ⟨M, h, hM⟩ := h
  refine wpAny_execs_cons (thn (h1 pins s σ H { D with nx := M } I h) fun f s1 q => ?_)
  cases f with
  | next =>
    obtain ⟨σ', H', I', q⟩ := q
    exact h2 pins s1 σ' H' D I' (hM σ' H' q)
  | ret v => exact q
  | brk => exact q
  | cont => exact q
theorem for_by {J : It} {g : TG} {tb : TS} {D : Ends} {σ : L2.St} {H : Hp} (n : Nat) (Pv : Nat → L2.St → Hp → Prop) (h0 : Pv 0 σ H)
    (hgo : ∀ i σ H, i < n → Pv i σ H → J.go i H ∧ ∀ x H', J.yld i H x H' → g x σ H' fun σ2 H2 => tb { D with nx := Pv (i + 1), ct := Pv (i + 1), bk := D.nx } σ2 H2) (hd : ∀ σ H, Pv n σ H → J.stop n H ∧ D.nx σ H) :
    ∃ W : Nat → Nat → L2.St → Hp → Prop, (∃ m, W 0 m σ H) ∧ ∀ i m σ H, W i m σ H →
      (J.stop i H ∧ D.nx σ H) ∨ (J.go i H ∧ ∃ N : L2.St → Hp → Prop, (∀ σ' H', N σ' H' → ∃ m', m' < m ∧ W (i + 1) m' σ' H') ∧ ∀ x H', J.yld i H x H' → g x σ H' fun σ2 H2 => tb { D with nx := N, ct := N, bk := D.nx } σ2 H2) := by
  refine ⟨fun i m σ H => m = n - i ∧ i ≤ n ∧ Pv i σ H, ⟨n, by simp, Nat.zero_le _, h0⟩, ?_⟩
  rintro i m σ H ⟨rfl, hi, p⟩
  by_cases hlt : i < n
  · obtain ⟨g1, g2⟩ := hgo i σ H hlt p
    exact .inr ⟨g1, Pv (i + 1), fun σ' H' p' => ⟨n - (i + 1), by omega, rfl, hlt, p'⟩, g2⟩
  · obtain rfl : i = n := by omega
    exact .inl (hd σ H p)
def SameX (p : Addr) (H H' : Hp) : Prop := ∀ b o, b ≠ p → H b = some o → H' b = some o
theorem SameX.trans {p : Addr} {H H1 H2 : Hp} (a : SameX p H H1) (b : SameX p H1 H2) : SameX p H H2 := fun c o n h => b c o n (a c o n h)
theorem _root_.L2.Same.x {p : Addr} {H H' : Hp} (a : Same H H') : SameX p H H' := fun c o _ h => a c o h
theorem SameX.upd {p : Addr} {H : Hp} (o : HO) : SameX p H (upd H p o) := fun b u n h => by rw [upd_ne n]; exact h
mutual
theorem Rep.monoX {p : Addr} {H H' : Hp} (h : SameX p H H') (hp : ∀ vs, H p ≠ some (.tup vs)) : ∀ {d : KM.D} {v : V}, Rep H d v → Rep H' d v
  | .non, _, r => r
  | .bl _, _, r => r
  | .int _, _, r => r
  | .str _, _, r => r
  | .tup _, _, ⟨a, vs, e, q, r⟩ => ⟨a, vs, e, h _ _ (fun z => hp vs (by rw [← z]; exact q)) q, Reps.monoX h hp r⟩
theorem Reps.monoX {p : Addr} {H H' : Hp} (h : SameX p H H') (hp : ∀ vs, H p ≠ some (.tup vs)) : ∀ {ds : List KM.D} {vs : List V}, Reps H ds vs → Reps H' ds vs
  | [], _, r => r
  | _ :: _, _, ⟨v, r, e, q, t⟩ => ⟨v, r, e, Rep.monoX h hp q, Reps.monoX h hp t⟩
end
end L3
end
section
namespace L3
open PySem PySem.Spec PyProof.Rows L2
section
variable {prog : Program} {w : World} {A : Around} {E : Value → Shared → Prop} {s : Shared} {d : Addr} {o : Obj} {es : Array DictEntry} {ep : Nat} {hsh : Int}
theorem key_at {i : Nat} {e : DictEntry} (hall : (es.all fun e => isExactStrKey e.key) = true) (h : es[i]? = some e) : ∃ x t, e.key = .str x t := by
  have z := Array.all_eq_true_iff_forall_mem.mp hall e (Array.mem_of_getElem? h)
  cases q : e.key with
  | str x t => exact ⟨x, t, rfl⟩
  | _ => rw [q] at z; cases z
theorem stored_str (hall : (es.all fun e => isExactStrKey e.key) = true) (l : List Nat) : ∀ v ∈ l.filterMap (fun i => es[i]?.map (·.key)), ∃ x t, v = .str x t := fun v hv => by
  obtain ⟨i, _, hi⟩ := List.mem_filterMap.mp hv
  cases he : es[i]? with
  | none => rw [he] at hi; cases hi
  | some e =>
    rw [he] at hi
    obtain ⟨x, t, z⟩ := key_at hall he
    have hi : e.key = v := by simpa using hi
    exact ⟨x, t, by rw [← hi, z]⟩
theorem find_none {Q : Option Nat → Shared → Prop} (ho : s.heap.get? d = some o) (hd : o.data = .dict es ep) (hall : (es.all fun e => isExactStrKey e.key) = true) (h : Q none s) : wpAny (model prog w) A (dictFind d .none hsh) Q E s := by
  have hst := stored_str hall (placesWithHash es.size (fun i => es[i]?.map (·.hash)) hsh)
  unfold dictFind
  try with_reducible refine wpAny_holding ?_
  refine wpAny_bind (wpAny_dictEntries ho hd ?_)
  dsimp only
  rw [if_pos (by
    rw [List.all_cons, List.all_eq_true.mpr]
    · rfl
    · intro v hv
      obtain ⟨x, t, rfl⟩ := hst v hv
      rfl)]
  unfold dictWalkPlain
  refine wpAny_bind ?_
  refine wpAny_forIn_list _ (fun rest r s' => s' = s ∧ r = (none, ())) _ ?_ ?_ _ _ ⟨rfl, rfl⟩
  · rintro i rest r s' ⟨rfl, rfl⟩
    cases he : es[i]? with
    | none => exact wpAny_pure ⟨rfl, rfl⟩
    | some e =>
      dsimp only
      obtain ⟨x, t, ek⟩ := key_at hall he
      by_cases hh : (e.hash == hsh) = true
      · rw [if_pos hh, ek]
        refine wpAny_bind (wpAny_dictEpoch ho hd (wpAny_bind (SeqAt.EqAt.str_none x t prog w E _ (wpAny_bind (wpAny_dictEpoch ho hd ?_)))))
        rw [if_neg (by simp)]
        exact wpAny_bind (wpAny_rule (wpAny_pure ⟨rfl, rfl⟩))
      · rw [if_neg hh]
        exact wpAny_pure ⟨rfl, rfl⟩
  · rintro r s' ⟨rfl, rfl⟩
    exact wpAny_pure h
end
section
variable {X : Cx} {pins : List (Addr × Obj)} {σ : L2.St} {H : Hp} {s : Shared} {a : Addr} {D : List (Str × V)} {A : Around} {E : Value → Shared → Prop}
end
end L3
end
section
namespace L3
open PySem L2
section
variable {prog : Program} {w : World} {A : Around} {E : Value → Shared → Prop} {s : Shared}
end
section
variable {prog : Program} {w : World} {A : Around} {E : Value → Shared → Prop} {s : Shared}
end
end L3
end
section
namespace L3
open PySem PySem.Spec PyProof.Rows L2
structure ZRecL (a b z TI TO i1 i2 : Addr) (i : Nat) (h : Heap) : Prop where
  z : IsZip h z TI TO .none
  TI : IsPair h TI (.ref i1) (.ref i2)
  TO : ∃ u v, IsPair h TO u v
  i1 : h.IsListIter i1 a i
  i2 : h.IsListIter i2 b i
end L3
end
section
namespace L3
open PySem PySem.Spec PyProof.Rows L2
theorem bt_int : bootBuiltins "int" = some (.type "int") := by decide +kernel
theorem bt_str : bootBuiltins "str" = some (.type "str") := by decide +kernel
theorem bt_list : bootBuiltins "list" = some (.type "list") := by decide +kernel
theorem bt_len : bootBuiltins "len" = some (.builtin "len") := by decide +kernel
theorem bt_isinstance : bootBuiltins "isinstance" = some (.builtin "isinstance") := by decide +kernel
theorem bt_max : bootBuiltins "max" = some (.builtin "max") := by decide +kernel
def Df (K : PySem.W.Frag) (mg : Str → Option Value) (x : Str) (st : Stmt) (ps : List Str) : Prop := ∃ f fd, Fun K x x st f fd ∧ mg x = some (.ref f) ∧ Binds K fd ps []
def Cal (P : Program) (w : World) (K : PySem.W.Frag) (mg : Str → Option Value) (CX : CXT) (x : Str) (k : Nat) (ps : List Str) (sp : Sp) : Prop :=
  ∃ f fd, (∀ base, FnOk P w K mg base CX k f fd ps sp) ∧ mg x = some (.ref f) ∧ PySem.W.keepIn K (.ref f) = true ∧ Binds K fd ps []
section
variable {P : Program} {w : World} {K : PySem.W.Frag} {mg : Str → Option Value}
theorem Df.ok {x : Str} {st : Stmt} {N ps : List Str} {k : Nat} {sp : Sp} (D : Df K mg x st ps) (S : FnScope N ps (defScope st)) (len : ∀ vs H Q E, sp vs H Q E → vs.length = ps.length)
    (hbody : ∀ (base : Heap) (f : Addr) (cdv : Value) (A : Around) (outer : List Env) (s : Shared) (H : Hp) (vs : List V) (Q : VK) (E : XK), Room k (A.deeper (envOfC x (defScope st) s.heap.objs.size f cdv)) → sp vs H Q E →
      ∃ t, PSs (cxOf CX0 P w K mg base N x (defScope st) f cdv A outer s H E).nox (defBody st) t ∧ t { nx := fun _ H' => Q .non H', rt := Q } (start N vs) H) : Cal P w K mg CX0 x (k + 1) ps sp := by
  obtain ⟨f, fd, F, m, b⟩ := D
  exact ⟨f, fd, fun base => F.ok S len (hbody base f), m, F.kp, b⟩
theorem Cal.mono {CX : CXT} {x : Str} {j k : Nat} {ps : List Str} {sp : Sp} (F : Cal P w K mg CX x j ps sp) (h : j ≤ k) : Cal P w K mg CX x k ps sp := by
  obtain ⟨f, fd, F, r⟩ := F
  exact ⟨f, fd, fun base => (F base).mono h, r⟩
theorem Cal.never {x : Str} {st : Stmt} {ps : List Str} {sp : Sp} {k : Nat} {CX : CXT} (D : Df K mg x st ps) (no : ∀ vs H Q E, ¬ sp vs H Q E) : Cal P w K mg CX x k ps sp := by
  obtain ⟨f, fd, F, m, b⟩ := D
  exact ⟨f, fd, fun base => ⟨fun vs H Q E h => absurd h (no vs H Q E), fun A outer s H args us vs Q E _ _ _ _ h => absurd h (no vs H Q E)⟩, m, F.kp, b⟩
end
def hidX (h : Heap) (H : Hp) (fs : List Addr) : Heap := PySem.W.hideAll (hidT h H) fs
theorem hidX_get {h : Heap} {H : Hp} {fs : List Addr} {b : Addr} {o : Obj} (e : h.get? b = some o) (n : H b = none) (hf : b ∉ fs) : (hidX h H fs).get? b = some o := PySem.W.hideAll_get _ (hidT_get e n) hf
theorem of_hidX {h : Heap} {H : Hp} {fs : List Addr} {b : Addr} {o : Obj} (e : (hidX h H fs).get? b = some o) : h.get? b = some o ∧ H b = none := of_hidT (PySem.W.of_hideAll fs e)
theorem hidX_size (h : Heap) (H : Hp) (fs : List Addr) : (hidX h H fs).objs.size = h.objs.size := (PySem.W.hideAll_size _ _).trans (hidT_size h H)
theorem funFrames_of {h B B' : Heap} : ∀ {l : List Env}, h.FunFrames B l → (∀ L ∈ frs l, B'.get? L = none) → h.FunFrames B' l
  | [], _, _ => trivial
  | env :: l, ⟨hk, ⟨L, o, hf, _, ho, hd⟩, hr⟩, hn => ⟨hk, ⟨L, o, hf, hn L (by unfold frs; rw [List.filterMap_cons, hf]; exact List.mem_cons_self), ho, hd⟩, funFrames_of hr fun b hb => hn b (by unfold frs at hb ⊢; rw [List.filterMap_cons, hf]; exact List.mem_cons_of_mem _ hb)⟩
theorem env1 {X : Cx} {pins : List (Addr × Obj)} {σ : L2.St} {H : Hp} {s : Shared} (I : Inv X pins σ H s) (hc : X.calm = true) : Env0 X.prog X.w X.K X.mg (hidX s.heap H (frs X.stack)) X.A X.stack s H := by
  have nf : ∀ b o, X.base.get? b = some o → b ∉ frs X.stack := fun b o e z => by
    rcases List.mem_cons.mp (I.stkSub b z) with z | z
    · have := Heap.lt_size e
      rw [z] at this
      exact absurd this (Nat.not_lt.mpr (Nat.le_trans I.ok.bsz I.ok.above))
    · exact I.ok.nofr e z
  have up : ∀ b o, X.base.get? b = some o → (hidX s.heap H (frs X.stack)).get? b = some o := fun b o e => hidX_get (I.bs b o e).1 (I.bs b o e).2 (nf b o e)
  obtain ⟨mb, b1, b2⟩ := I.ok.mod.blt
  refine ⟨I.ok.frames, ⟨I.ok.mod.kin.keeps up, I.ok.mod.glob.keeps up, ⟨mb, b1.keeps up, b2⟩, I.ok.mod.nolimit.keeps up⟩, fun b o e => of_hidX e, Nat.le_of_eq (hidX_size _ _ _), funFrames_of I.stack fun L hL => PySem.W.hideAll_none _ hL, I.stkFree, I.hok, I.bare, ?_⟩
  rcases I.ok.hd hc with h | ⟨a, oe, vs, e1, e2, e3⟩
  · exact .inl h
  · refine .inr ⟨a, oe, vs, e1, ?_, e3⟩
    rcases e2 with e2 | e2
    · exact up a oe e2
    · obtain ⟨q1, q2, q3, q4, _⟩ := I.pin (a, oe) (List.mem_append_left _ e2)
      refine hidX_get q1 q2 fun z => ?_
      rcases List.mem_cons.mp (I.stkSub a z) with z | z
      · exact q3 z
      · exact q4 z
theorem run_cal {X : Cx} {CX : CXT} {k : Nat} {f : Addr} {fd : FuncData} {ps : List Str} {sp : Sp} {E : XK} {pins : List (Addr × Obj)} {σ : L2.St} {H : Hp} {s : Shared} {Q : VK} {us : List Value} {vs : List V} {XE : Value → Shared → Prop}
    (F : ∀ base, FnOk X.prog X.w X.K X.mg base CX k f fd ps sp) (hr : Room k X.A) (hb : Binds X.K fd ps []) (I : Inv X pins σ H s) (hc : X.calm = true) (hx : ∀ e s', CX X.A.handled X.stack H s E e s' → XE e s') (r : Vals vs us) (h : sp vs H Q E) :
    wpAny (model X.prog X.w) X.A (call (.ref f) us) (EP X pins σ Q) XE s := by
  have hl : us.length = ps.length := by rw [← r.length]; exact (F (hidX s.heap H (frs X.stack))).len _ _ _ _ h
  have bt := hb s us I.kIn (by rw [List.append_nil]; exact hl)
  rw [List.append_nil] at bt
  refine wpAny_call (codeAny_mono ((F _).run X.A X.stack s H ⟨us, []⟩ us vs Q E hr (env1 I hc) bt r h) fun r s' hq => ?_)
  cases r with
  | error e => exact hx e s' hq
  | ok fl =>
    cases fl with
    | ret u => exact I.after hq
    | next => exact False.elim hq
    | brk => exact False.elim hq
    | cont => exact False.elim hq
theorem pe_fn {X : Cx} {CX : CXT} {x : Str} {k : Nat} {ps : List Str} {sp : Sp} {E : XK} {e : Expr} {es : List Expr} {t : TA} {p pos : Pos} (F : Cal X.prog X.w X.K X.mg CX x k ps sp) (hr : Room k X.A) (hg : Gl X x) (hx : Passes CX X E)
    (ha : PA X (e :: es) t) (hdb : (x == ("__debug__" : Str)) = false := by decide) (he : starEach (e :: es) X.env = (false, eval e X.env) :: starEach es X.env := by rfl) (hpl : (backTo pos (starEach es X.env)).any (·.1) = false := by rfl) (hc : X.calm = true := by rfl) :
    PE X (.Call (.Name x p) (e :: es) [] pos) (tCall sp [] E t) := by
  obtain ⟨f, fd, F, m, kp, b⟩ := F
  intro pins s σ H Q I h
  refine wpAny_Call_Name_kw (ld_glob I hg m ?_ hdb)
  refine PySem.W.callWith_K (h₀ := X.base) I.ok.mod.kin kp (thn (ha pos pins s σ H _ I h) fun us s1 ⟨vs, H1, I1, r, q⟩ => ⟨I1.kIn, ?_⟩) he hpl
  have q : sp (vs ++ []) H1 Q E := q
  rw [List.append_nil] at q
  exact run_cal F hr b I1 hc (fun e s' hc => hx pins σ H1 s1 e s' I1 hc) r q
theorem pe_gref {X : Cx} {x : Str} {a : Addr} {pos : Pos} (hm : X.mg x = some (.ref a)) (hg : Gl X x) (hd : (x == ("__debug__" : Str)) = false := by decide) : PE X (.Name x pos) (tC (.ref a)) := pe_glob hg hm rfl hd
theorem pe_ty {X : Cx} {x : Str} {n : String} {pos : Pos} (hm : X.mg x = none) (hv : bootBuiltins x = some (.type n)) (hg : Gl X x) (hn : x ≠ "__name__" := by decide) (hd : (x == ("__debug__" : Str)) = false := by decide) : PE X (.Name x pos) (tC (.ty n)) := pe_bltn hg hm hv rfl hn hd
def blkChk (outer : List (Str × NameKind)) (N N' : List Str) (own : Nat) (fr : List Nat) (scope : Scope) : Bool :=
  scope.names.all (fun y => y.2 != .cell && (y.2 != .local || scope.names.lookup y.1 == some .local) && (y.2 != .free || outer.lookup y.1 == some .cell || outer.lookup y.1 == some .free)) &&
  decide (N'.length = own + fr.length) && (List.range fr.length).all (fun j => match fr[j]? with
    | some i => match N'[own + j]? with
      | some x => N[i]? == some x && scope.names.lookup x == some .free
      | none => false
    | none => true)
theorem blk_of {X : Cx} {N N' : List Str} {own : Nat} {fr : List Nat} {sc scope : Scope} (hs : X.env.scope = sc) (hN : X.N = N) (hk : scope.kind = .function) (h : blkChk sc.names N N' own fr scope = true) : BlkScope X N' own fr scope := by
  unfold blkChk at h
  simp only [Bool.and_eq_true, List.all_eq_true, decide_eq_true_eq] at h
  obtain ⟨⟨h1, h2⟩, h3⟩ := h
  subst hN
  refine ⟨hk, fun y hy => ?_, fun y hy e => ?_, fun y hy e => ?_, h2, fun j i e => ?_⟩
  · simpa using (h1 y hy).1.1
  · have := (h1 y hy).1.2
    simpa [e] using this
  · have := (h1 y hy).2
    unfold Env.kindOf
    rw [hs]
    simpa [e] using this
  · have hj : j < fr.length := (List.getElem?_eq_some_iff.mp e).1
    have := h3 j (by simpa using hj)
    rw [e] at this
    cases hx : N'[own + j]? with
    | none => simp [hx] at this
    | some x =>
      simp only [hx, Bool.and_eq_true, beq_iff_eq] at this
      exact ⟨x, rfl, this.1, this.2⟩
end L3
end
section
namespace L3
open PySem PySem.Spec PyProof.Rows L2
section
variable {prog : Program} {w : World} {A : Around} {E : Value → Shared → Prop} {s : Shared}
end
section
variable {prog : Program} {w : World} {A : Around} {R : Result → Shared → Prop} {I : Addr} {fp wr : List Addr} {P : Nat → Value → Prop} {St : Nat → Heap → Prop}
end
section
variable {X : Cx} {pins : List (Addr × Obj)} {σ : L2.St} {H : Hp} {s : Shared}
end
end L3
end
section
namespace L3
open PySem PySem.Spec PyProof.Rows L2
theorem same_upd {H H2 : Hp} {p : Addr} {o : HO} (h : Same H H2) (hp : H p = none) : Same H (upd H2 p o) := fun b u q => by rw [upd_ne (ne_of_none q hp)]; exact h b u q
theorem comp_vals {J : It} {p : Addr} {H1 : Hp} {g : TG} {te : TE} {b : L2.St} {C : Hp → Prop} (n : Nat) (f : Nat → V) (hp : H1 p = none) (hn : n ≤ sizeLine)
    (hgo : ∀ i H2, i < n → Same H1 H2 → J.go i H2 ∧ ∀ x H3, J.yld i H2 x H3 → ∀ (R : V → Hp → Prop), (∀ H6, Same H2 H6 → R (f i) H6) → g x b H3 fun σ4 H4 => te σ4 H4 R)
    (hd : ∀ H2, Same H1 H2 → H2 p = some (.lst ((List.range n).map f)) → J.stop n H2 ∧ C H2) :
    ∃ W : Nat → Nat → List V → Hp → Prop, (∃ m, W 0 m [] (upd H1 p (.lst []))) ∧ ∀ i m acc H2, W i m acc H2 → (J.stop i H2 ∧ C H2) ∨ (J.go i H2 ∧ ∀ x H3, J.yld i H2 x H3 → g x b H3 fun σ4 H4 => tYes σ4 H4 fun ok H5 =>
      if ok = true then te σ4 H5 fun v H6 => H6 p = some (.lst acc) ∧ acc.length < sizeLine ∧ ∃ m', m' < m ∧ W (i + 1) m' (acc ++ [v]) (upd H6 p (.lst (acc ++ [v]))) else ∃ m', m' < m ∧ W (i + 1) m' acc H5) := by
  refine comp_by (Q := fun _ H => C H) n (fun i acc H2 => acc = (List.range i).map f ∧ H2 p = some (.lst acc) ∧ Same H1 H2) ⟨rfl, upd_same, same_new hp _⟩ ?_ ?_
  · rintro i acc H2 hi ⟨rfl, h2, s2⟩
    obtain ⟨g1, g2⟩ := hgo i H2 hi s2
    refine ⟨g1, fun x H3 y => ?_⟩
    simp only [tYes, if_true]
    refine g2 x H3 y _ fun H6 s6 => ⟨s6 _ _ h2, by rw [List.length_map, List.length_range]; omega, nx hi ⟨?_, upd_same, same_upd (s2.trans s6) hp⟩⟩
    rw [List.range_succ, List.map_append]; rfl
  · rintro acc H2 ⟨rfl, h2, s2⟩
    exact hd H2 s2 h2
end L3
end
section
namespace HT
open PySem PyProof.Rows
section
open PySem.SeqAt
open PySem.AutoSeq1 (wpAny_loadPart')
open PySem.MeetsSeq PySem.MeetsSeq2 PySem.MeetsSeq3
variable {prog : Program} {w : World} {A : Around} {E : Value → Shared → Prop} {s : Shared}
theorem getItem_tuple_whole {t sl : Addr} {items : Array Value} {vl vu : Value} {lo hi : Option Int} {Q : Value → Shared → Prop} (ht : IsTup s.heap t items) (hs : s.heap.IsSliceOf sl vl vu .none) (pl : IsPart vl lo) (pu : IsPart vu hi)
    (h1 : sIx items.size 0 lo = 0) (h2 : sIx items.size items.size hi = items.size) (h : Q (.ref t) s) : wpAny (model prog w) A (getItem (.ref t) (.ref sl)) Q E s := by
  obtain ⟨os, hos, hcs, hds⟩ := id hs
  have hTs : s.TypeIs (.ref sl) "slice" := ⟨os, hos, hcs⟩
  unfold getItem
  try with_reducible refine wpAny_holding ?_
  first | refine wpAny_bind (wpAny_pure ?_) | skip
  refine wpAny_bind (wpAny_sequenceKey ht.typeIs (by decide) ?_)
  refine wpAny_bind (wpAny_callSpecial?_slot (name := Str.ofString "__getitem__") ht.typeIs PyProof.Rows.slot_tuple_getitem
    (wpAny_call_entry PyProof.Rows.slot_tuple_getitem ht.typeIs entry_tuple_getitem ?_ (args_tuple_getitem _ _)))
  show wpAny _ _ (Builtin.Tuple.tupleItemsOf (.ref t) >>= _) _ _ s
  refine wpAny_bind (tupleItemsOf_ ht ?_)
  refine wpAny_bind (wpAny_typeOf hTs ?_)
  rw [if_pos (by decide)]
  refine wpAny_bind (sliceApplied_gen hs pl pu ?_)
  have hyes : (((sIx items.size 0 lo : Nat) : Int) == 0 && (1 : Int) == 1 && (sIx items.size items.size hi - sIx items.size 0 lo) == items.size) = true := by
    rw [h1, h2]; simp
  show wpAny _ _ (if (((sIx items.size 0 lo : Nat) : Int) == 0 && (1 : Int) == 1 && (sIx items.size items.size hi - sIx items.size 0 lo) == items.size) = true then _ else _) _ _ s
  rw [if_pos hyes]
  show wpAny _ _ (Builtin.Tuple.tupleIsExact (.ref t) >>= _) _ _ s
  refine wpAny_bind ?_
  unfold Builtin.Tuple.tupleIsExact
  refine wpAny_bind (wpAny_typeOf ht.typeIs (wpAny_pure ?_))
  rw [if_pos (by decide)]
  exact wpAny_bind (wpAny_rule (wpAny_pure ⟨_, rfl, wpAny_pure h⟩))
end
end HT
namespace L3
open PySem PySem.Spec PyProof.Rows L2
def rSlW (K : PySem.W.Frag) : V → Option Int → Option Int → Hp → VK → Prop := fun x lo hi H Q => ∃ a xs, x = .ref a ∧ SqT K H a xs ∧ (∀ p, H p = none → Q (.ref p) (upd H p (.tup (cutV xs lo hi)))) ∧ (cutV xs lo hi = xs → Q (.ref a) H)
theorem sl_tupW {X : Cx} : SlR X (rSlW X.K) := by
  intro pins s σ H x v vl vu lo hi sl Q I rx hs pl pu h
  obtain ⟨a, xs, rfl, hx, q1, q2⟩ := h
  by_cases hw : HT.sIx xs.length 0 lo = 0 ∧ HT.sIx xs.length xs.length hi = xs.length
  · cases rx
    obtain ⟨its, r, ht, hz⟩ := I.tuple hx
    have hlen : its.toArray.size = xs.length := by rw [List.size_toArray]; exact r.length.symm
    refine ⟨"tuple", _, PyProof.Rows.slot_tuple_getitem.lookup, ht.typeIs, ?_⟩
    refine HT.getItem_tuple_whole ht hs pl pu (by rw [hlen]; exact hw.1) (by rw [hlen]; exact hw.2) ⟨.ref a, H, I, rfl, q2 ?_⟩
    unfold cutV
    rw [hw.1, hw.2, List.drop_zero, Nat.sub_zero, List.take_length]
  · exact sl_tup pins s σ H _ v vl vu lo hi sl Q I rx hs pl pu ⟨a, xs, rfl, hx, hw, q1⟩
theorem cutV_from (xs : List V) (k : Nat) : cutV xs (some (k : Int)) none = xs.drop k := by
  unfold cutV
  rw [HT.sIx_none, HT.sIx_nat]
  by_cases h : k ≤ xs.length
  · rw [Nat.min_eq_left h]
    exact List.take_of_length_le (by rw [List.length_drop]; omega)
  · rw [Nat.min_eq_right (by omega), List.drop_eq_nil_of_le (Nat.le_refl _), List.drop_eq_nil_of_le (show xs.length ≤ k by omega)]
    simp
theorem cutV_to (xs : List V) (k : Nat) : cutV xs none (some (k : Int)) = xs.take k := by
  unfold cutV
  rw [HT.sIx_none, HT.sIx_nat, List.drop_zero, Nat.sub_zero]
  by_cases h : k ≤ xs.length
  · rw [Nat.min_eq_left h]
  · rw [Nat.min_eq_right (by omega), List.take_of_length_le (Nat.le_refl _), List.take_of_length_le (show xs.length ≤ k by omega)]
end L3
end
section
namespace L3
open PySem PySem.Spec PyProof.Rows L2
section
variable {X : Cx} {K : PySem.W.Frag}
end
end L3
end
section
namespace L3
open PySem PySem.Spec PyProof.Rows L2
def maxN : List Nat → Nat
  | [] => 0
  | a :: r => max a (maxN r)
end L3
end
section
namespace L3
open PySem PySem.Spec L2
variable {K : PySem.W.Frag}
def SqK (K : PySem.W.Frag) (a : Addr) (xs : List V) : Prop := ∃ (o : Obj) (its : Array Value) (n : Nat), K.lookup a = some o ∧ o.cls = .type "tuple" ∧ o.data = .seq its n ∧ its.size ≤ sizeLine ∧ Vals xs its.toList
structure KD (K : PySem.W.Frag) (a : Addr) (rows : List (Str × List V)) (as : List Addr) : Prop where
  len : as.length = rows.length
  tab : TabK K a ((rows.zip as).map fun p => (p.1.1, V.ref p.2))
  sq : ∀ p ∈ rows.zip as, SqK K p.2 p.1.2
theorem datum_zip {α β : Type} {x : Str} (f : (Str × α) × β → V) : ∀ (rows : List (Str × α)) (as : List β), as.length = rows.length →
    (∃ r a, (r, a) ∈ rows.zip as ∧ r.1 = x ∧ rows.lookup x = some r.2 ∧ PyProof.Rows.KTD.datumAt x ((rows.zip as).map fun p => (p.1.1, f p)) = some (f (r, a))) ∨
    (rows.lookup x = none ∧ PyProof.Rows.KTD.datumAt x ((rows.zip as).map fun p => (p.1.1, f p)) = none)
  | [], _, _ => .inr ⟨rfl, rfl⟩
  | (k, v) :: rows, [], h => by simp at h
  | (k, v) :: rows, a :: as, h => by
    have ih := datum_zip (x := x) f rows as (by simpa using h)
    by_cases e : x = k
    · subst e
      exact .inl ⟨(x, v), a, List.mem_cons_self, rfl, by simp [List.lookup], by simp [PyProof.Rows.KTD.datumAt]⟩
    · have e1 : (x == k) = false := by simpa using e
      have e2 : ¬ k = x := fun z => e z.symm
      rcases ih with ⟨r, b, h1, h2, h3, h4⟩ | ⟨h1, h2⟩
      · exact .inl ⟨r, b, List.mem_cons_of_mem _ h1, h2, by rw [List.lookup_cons, e1]; exact h3, by simp only [List.zip_cons_cons, List.map_cons, PyProof.Rows.KTD.datumAt, e, decide_false, Bool.false_eq_true, if_false]; exact h4⟩
      · exact .inr ⟨by rw [List.lookup_cons, e1]; exact h1, by simp only [List.zip_cons_cons, List.map_cons, PyProof.Rows.KTD.datumAt, e, decide_false, Bool.false_eq_true, if_false]; exact h2⟩
theorem KD.some {a : Addr} {rows : List (Str × List V)} {as : List Addr} (T : KD K a rows as) {x : Str} {ds : List V} (h : rows.lookup x = Option.some ds) : ∃ b, PyProof.Rows.KTD.datumAt x ((rows.zip as).map fun p => (p.1.1, V.ref p.2)) = Option.some (.ref b) ∧ ∀ H, SqT K H b ds := by
  rcases datum_zip (x := x) (fun p => V.ref p.2) rows as T.len with ⟨r, b, h1, h2, h3, h4⟩ | ⟨h1, _⟩
  · rw [h] at h3
    cases h3
    exact ⟨b, h4, fun H => .inr (T.sq _ h1)⟩
  · rw [h] at h1; cases h1
def valsChk : List V → List Value → Bool
  | [], [] => true
  | .str x :: vs, .str y _ :: us => decide (x = y) && valsChk vs us
  | .int i :: vs, .int j _ :: us => decide (i = j) && valsChk vs us
  | _, _ => false
theorem valsChk_ok : ∀ {vs : List V} {us : List Value}, valsChk vs us = true → Vals vs us
  | [], [], _ => .nil
  | .str x :: vs, .str y t :: us, h => by
    simp only [valsChk, Bool.and_eq_true, decide_eq_true_eq] at h
    obtain ⟨rfl, h⟩ := h
    exact .cons ⟨t, rfl⟩ (valsChk_ok h)
  | .int x :: vs, .int y t :: us, h => by
    simp only [valsChk, Bool.and_eq_true, decide_eq_true_eq] at h
    obtain ⟨rfl, h⟩ := h
    exact .cons ⟨t, rfl⟩ (valsChk_ok h)
  | [], _ :: _, h => by simp [valsChk] at h
  | _ :: _, [], h => by simp [valsChk] at h
  | .non :: _, _ :: _, h => by simp [valsChk] at h
  | .bl _ :: _, _ :: _, h => by simp [valsChk] at h
  | .byt _ :: _, _ :: _, h => by simp [valsChk] at h
  | .flt _ :: _, _ :: _, h => by simp [valsChk] at h
  | .ref _ :: _, _ :: _, h => by simp [valsChk] at h
  | .ty _ :: _, _ :: _, h => by simp [valsChk] at h
  | .str _ :: _, .none :: _, h => by simp [valsChk] at h
  | .str _ :: _, .int _ _ :: _, h => by simp [valsChk] at h
  | .str _ :: _, .ref _ :: _, h => by simp [valsChk] at h
  | .str _ :: _, .bool _ :: _, h => by simp [valsChk] at h
  | .str _ :: _, .float _ _ :: _, h => by simp [valsChk] at h
  | .str _ :: _, .bytes _ _ :: _, h => by simp [valsChk] at h
  | .str _ :: _, .type _ :: _, h => by simp [valsChk] at h
  | .str _ :: _, .builtin _ :: _, h => by simp [valsChk] at h
  | .str _ :: _, .ellipsis :: _, h => by simp [valsChk] at h
  | .str _ :: _, .notImplemented :: _, h => by simp [valsChk] at h
  | .int _ :: _, .none :: _, h => by simp [valsChk] at h
  | .int _ :: _, .str _ _ :: _, h => by simp [valsChk] at h
  | .int _ :: _, .ref _ :: _, h => by simp [valsChk] at h
  | .int _ :: _, .bool _ :: _, h => by simp [valsChk] at h
  | .int _ :: _, .float _ _ :: _, h => by simp [valsChk] at h
  | .int _ :: _, .bytes _ _ :: _, h => by simp [valsChk] at h
  | .int _ :: _, .type _ :: _, h => by simp [valsChk] at h
  | .int _ :: _, .builtin _ :: _, h => by simp [valsChk] at h
  | .int _ :: _, .ellipsis :: _, h => by simp [valsChk] at h
  | .int _ :: _, .notImplemented :: _, h => by simp [valsChk] at h
def seqChk (vs : List V) (its : Array Value) : Bool := valsChk vs its.toList && decide (its.size ≤ 100)
theorem sqk_mk {K : PySem.W.Frag} {a : Addr} {d : Option Addr} {its : Array Value} {n : Nat} {sl : Array (Option Value)} {vs : List V} (h : K.lookup a = some ⟨.type "tuple", d, .seq its n, sl⟩) (c : seqChk vs its = true) : SqK K a vs := by
  simp only [seqChk, Bool.and_eq_true, decide_eq_true_eq] at c
  exact ⟨_, its, n, h, rfl, rfl, Nat.le_trans c.2 (by decide), valsChk_ok c.1⟩
def rowsChk : List DictEntry → List Str → Bool
  | [], [] => true
  | e :: es, k :: ks => (match e.key, e.val with
    | .str x _, .ref _ => decide (x = k)
    | _, _ => false) && rowsChk es ks
  | _, _ => false
def refsOf (es : List DictEntry) : List Addr := es.map fun e => match e.val with
  | .ref a => a
  | _ => 0
theorem rows_of : ∀ {es : List DictEntry} {ks : List Str}, rowsChk es ks = true → PyProof.Rows.KTD.Rows RelV es ((ks.zip (refsOf es)).map fun p => (p.1, V.ref p.2))
  | [], [], _ => .nil
  | [], _ :: _, h => by simp [rowsChk] at h
  | _ :: _, [], h => by simp [rowsChk] at h
  | e :: es, k :: ks, h => by
    obtain ⟨hs, key, val⟩ := e
    rw [rowsChk, Bool.and_eq_true] at h
    cases key with
    | str x t =>
      cases val with
      | ref b =>
        have h1 : x = k := by simpa using h.1
        subst h1
        exact .cons rfl rfl (rows_of h.2)
      | _ => simp at h
    | _ => simp at h
end L3
end
section
namespace L3
open PySem PySem.Spec PyProof.Rows L2
structure MadeX (h h' : Heap) (e C : Addr) (hh : Option Value) : Prop where
  keeps : ∀ b o, h.get? b = some o → h'.get? b = some o
  new : h.get? e = none
  there : ∃ oe vs t c, h'.get? e = some oe ∧ oe.cls = .ref C ∧ oe.data = .fields vs ∧ vs[0]? = some (.ref t) ∧ vs[1]? = some .none ∧ vs[2]? = some c ∧ (hh = none → c = .none)
section
variable {prog : Program} {w : World} {A : Around} {E : Value → Shared → Prop} {s : Shared}
end
end L3
end
section
namespace L3
open PySem PySem.Spec PyProof.Rows L2
def Ex (h : Heap) (a C : Addr) (T c : Value) : Prop := ∃ oe vs a0, h.get? a = some oe ∧ oe.cls = .ref C ∧ oe.data = .fields vs ∧ vs[0]? = some a0 ∧ vs[1]? = some T ∧ vs[2]? = some c
def Tb (h : Heap) (T : Addr) (fl : Value) : Prop := ∃ oT ts, h.get? T = some oT ∧ oT.data = .fields ts ∧ ts[3]? = some fl
structure Stp (fs : List Addr) (xs : List Addr) (h h' : Heap) : Prop where
  keep : ∀ b o, h.get? b = some o → b ∉ fs → b ∉ xs → h'.get? b = some o
  slot : ∀ b o, h.get? b = some o → b ∈ fs → b ∉ xs → ∃ sl, h'.get? b = some { o with slots := sl }
theorem Stp.trans {fs xs : List Addr} {h h1 h2 : Heap} (p : Stp fs xs h h1) (q : Stp fs xs h1 h2) : Stp fs xs h h2 := by
  refine ⟨fun b o e n m => q.keep b o (p.keep b o e n m) n m, fun b o e n m => ?_⟩
  obtain ⟨sl, e1⟩ := p.slot b o e n m
  obtain ⟨sl2, e2⟩ := q.slot b _ e1 n m
  exact ⟨sl2, e2⟩
theorem Stp.more {fs fs' xs ys : List Addr} {h h' : Heap} (p : Stp fs xs h h') (k : ∀ b, b ∈ fs → b ∈ fs') (kx : ∀ b, b ∈ xs → b ∈ ys) : Stp fs' ys h h' := by
  refine ⟨fun b o e n m => p.keep b o e (fun z => n (k b z)) (fun z => m (kx b z)), fun b o e n m => ?_⟩
  by_cases hb : b ∈ fs
  · exact p.slot b o e hb fun z => m (kx b z)
  · exact ⟨o.slots, p.keep b o e hb fun z => m (kx b z)⟩
section
variable {M : Model} {A : Around} {E : Value → Shared → Prop} {s : Shared}
end
end L3
end
section
namespace L3
open PySem PySem.Spec PyProof.Rows L2
theorem Stp.any {fs xs : List Addr} {h h' : Heap} (p : Stp fs xs h h') {b : Addr} {o : Obj} (e : h.get? b = some o) (m : b ∉ xs) : ∃ sl, h'.get? b = some { o with slots := sl } := by
  by_cases hb : b ∈ fs
  · exact p.slot b o e hb m
  · exact ⟨o.slots, p.keep b o e hb m⟩
structure Fre (X : Cx) (pins : List (Addr × Obj)) (H : Hp) (b : Addr) : Prop where
  un : H b = none
  new : X.s₀.heap.get? b = none
  loc : b ≠ X.env.locals
  cel : ∀ x c, X.env.cells.lookup x = some c → c ≠ b
  pin : ∀ p ∈ X.pn ++ pins, p.1 ≠ b
section
variable {X : Cx} {pins : List (Addr × Obj)} {σ : L2.St} {H H' : Hp} {s s' : Shared} {h' : Heap} {a : Addr}
end
structure Fly (X : Cx) (pins : List (Addr × Obj)) (H : Hp) (s : Shared) (a C T : Addr) (c fl : Value) : Prop where
  ex : Ex s.heap a C (.ref T) c
  tb : Tb s.heap T fl
  ne : T ≠ a
  fa : Fre X pins H a
  fT : Fre X pins H T
section
variable {X : Cx} {pins : List (Addr × Obj)} {σ : L2.St} {H : Hp} {s s' : Shared} {E : XK} {e : Value} {hh : Option Value}
end
section
variable {P : Program} {w : World} {K : PySem.W.Frag} {mg : Str → Option Value} {base : Heap} {N : List Str} {qual : Str} {sc : Scope} {f : Addr} {cd : Value} {A : Around} {outer : List Env} {s₀ : Shared} {H₀ : Hp} {E : XK}
end
end L3
end
section
namespace L3
open PySem PySem.Spec PyProof.Rows L2
section
variable {X : Cx} {pins : List (Addr × Obj)} {σ : L2.St} {H : Hp} {s : Shared} {a : Addr} {oe : Obj} {cm : Bool}
end
section
variable {X : Cx} {cm : Bool}
end
end L3
end
section
namespace L3
open PySem PySem.Spec PyProof.Rows L2
structure ClsK (K : PySem.W.Frag) (C : Addr) : Prop where
  ga : PySem.W.findIn K (.ref C) "__getattribute__" = some (some (.builtin "BaseException.__getattribute__"))
  cl : PySem.W.findIn K (.ref C) "__class__" = some (some (.builtin "object.__class__"))
  gt : PySem.W.findIn K (.ref C) "__getattr__" = some none
  ob : PySem.W.mroIn K C (.type "object") = some true
  be : PySem.W.mroIn K C (.type "BaseException") = some true
  is : (PySem.W.clsIn K C).isSome = true
section
variable {prog : Program} {w : World} {A : Around} {E : Value → Shared → Prop} {h : Heap} {g : Array GenState} {d : Drawn} {t : Nat} {os : OsState} {a C : Addr} {o : Obj} {K : PySem.W.Frag}
end
end L3
end
section
namespace L3
open PySem PySem.Spec PyProof.Rows L2
section
variable {X : Cx} {pins : List (Addr × Obj)} {σ : L2.St} {H : Hp} {s : Shared} {a : Addr} {D : List (Str × V)} {k : Str} {tk : Tok} {A : Around} {E : Value → Shared → Prop}
end
structure ERec (a e it : Addr) (i : Nat) (h : Heap) : Prop where
  e : ∃ old, IsEnum h e it i old
  it : h.IsListIter it a i
end L3
end
section
namespace K20
open PySem L2 L3 KM
def top (i : Nat) : Stmt := PySem.Challenge.pw_keeper_k20_rules.main.body.getD i (.Pass ⟨0, 0, 0, 0⟩)
abbrev s_rule_of : Stmt := top 2
abbrev s_law_draw : Stmt := top 4
abbrev s_law_named : Stmt := top 5
abbrev s_law_pool : Stmt := top 6
abbrev s_law_leaf : Stmt := top 7
abbrev s_law_kind : Stmt := top 8
abbrev s_law_fun : Stmt := top 9
abbrev s_law_pair : Stmt := top 10
abbrev s_law_like : Stmt := top 11
abbrev s_law_number : Stmt := top 12
abbrev s_law_parted : Stmt := top 13
abbrev s_law_still : Stmt := top 14
abbrev s_law_term : Stmt := top 15
abbrev s_law_kids : Stmt := top 16
abbrev s_law_measured : Stmt := top 17
abbrev s_law_great : Stmt := top 18
abbrev s_law_thing : Stmt := top 19
abbrev s_law_book : Stmt := top 20
abbrev s_law_rule : Stmt := top 21
abbrev s_law_rows : Stmt := top 22
abbrev s_law_told : Stmt := top 23
abbrev s_law_all : Stmt := top 24
abbrev s_law : Stmt := top 25
structure Adr where
  none_ : Unit := ()
  RULES : Addr
structure Mg (mg : Str → Option Value) (t : Adr) : Prop where
  n_dict : mg "dict" = none
  n_int : mg "int" = none
  n_isinstance : mg "isinstance" = none
  n_len : mg "len" = none
  n_list : mg "list" = none
  n_max : mg "max" = none
  n_min : mg "min" = none
  n_range : mg "range" = none
  n_str : mg "str" = none
  g_RULES : mg "RULES" = some (.ref t.RULES)
seal L2.PE L2.PS L2.PSs L2.PT L2.PW L2.PA L2.PG L2.PGs L2.PI L2.PC L2.PO L2.PPs L2.PK L3.PIf
variable {P : Program} {w : World} {K : PySem.W.Frag} {mg : Str → Option Value} {base : Heap} {f : Addr} {fd : FuncData}
variable {P : Program} {w : World} {K : PySem.W.Frag} {mg : Str → Option Value} {base : Heap} {f : Addr} {fd : FuncData}
def tab1 : List (Key × V) := [(.inr "nat", .str ""), (.inr "none", .str ""), (.inr "zero", .str ""), (.inr "all", .str "kk"), (.inr "some", .str "kk"), (.inr "same", .str "ktt"), (.inr "fun", .str "kt"), (.inr "app", .str "tt")]
def tab2 : List (Key × V) := [(.inr "next", .str "t"), (.inr "rec", .str "kttt"), (.inr "like", .str "kt"), (.inr "carry", .str "ktt"), (.inr "never", .str "kt"), (.inr "pair", .str "ktt"), (.inr "first", .str "t")]
def tab3 : List (Key × V) := [(.inr "second", .str "t"), (.inr "var", .str "n"), (.inr "name", .str "w")]
def shapeV (x : Str) : V := match valV tab1 (Sum.inr x : Key) with
  | some v => v
  | none => match valV tab2 (Sum.inr x : Key) with
    | some v => v
    | none => (valV tab3 (Sum.inr x : Key)).getD .non
def kindW (w : Str) : Bool := inV (.str w) [.str "nat", .str "none", .str "all", .str "some", .str "same"]
def numD : D → Bool
  | .int i => decide (0 ≤ i) && decide (i ≤ 99)
  | _ => false
mutual
def wfG (nm : D → Bool) (k : Bool) : D → Bool
  | .tup (.str w :: ps) => match shapeV w with
    | .str s => (kindW w == k) && wfL nm s.cps.toList ps
    | _ => false
  | _ => false
def wfL (nm : D → Bool) : List Nat → List D → Bool
  | [], [] => true
  | c :: cs, p :: ps => (if c = 107 then wfG nm true p else if c = 116 then wfG nm false p else if c = 110 then numD p else nm p) && wfL nm cs ps
  | _, _ => false
end
def dueB (nm : D → Bool) (c : Nat) (p : D) : Bool := if c = 107 then wfG nm true p else if c = 116 then wfG nm false p else if c = 110 then numD p else nm p
theorem wfL_cons (nm : D → Bool) (c : Nat) (cs : List Nat) (p : D) (ps : List D) : wfL nm (c :: cs) (p :: ps) = (dueB nm c p && wfL nm cs ps) := by rw [wfL]; rfl
theorem wfG_mk {nm : D → Bool} {k : Bool} {w s : Str} {ps : List D} (h1 : shapeV w = .str s) (h2 : kindW w = k) (h3 : wfL nm s.cps.toList ps = true) : wfG nm k (.tup (.str w :: ps)) = true := by
  rw [wfG, h1]
  simp [h2, h3]
theorem shape_var : shapeV "var" = .str "n" := by decide +kernel
theorem shape_name : shapeV "name" = .str "w" := by decide +kernel
theorem kind_var : kindW "var" = false := by decide +kernel
theorem kind_name : kindW "name" = false := by decide +kernel
def Wd (k lf : Bool) (w : Str) : Prop := (w = "var" ∧ k = false) ∨ (w = "name" ∧ k = false ∧ lf = false) ∨ (w ≠ "var" ∧ w ≠ "name" ∧ w.length ≤ 12 ∧ kindW w = k ∧ ∃ s, shapeV w = .str s ∧ (∀ c ∈ s.cps.toList, c = 107 ∨ c = 116) ∧ s.cps.size ≤ 4 ∧ (lf = true → s = ""))
theorem Wd.weak {k lf : Bool} {w : Str} (h : Wd k lf w) : Wd k false w := by
  rcases h with h | ⟨h1, h2, h3⟩ | ⟨h1, h2, hl, h3, s, h4, h5, h6, h7⟩
  · exact .inl h
  · exact .inr (.inl ⟨h1, h2, rfl⟩)
  · exact .inr (.inr ⟨h1, h2, hl, h3, s, h4, h5, h6, fun z => by cases z⟩)
theorem len_n : (Str.ofString "n").cps.toList = [110] := by decide +kernel
theorem len_w : (Str.ofString "w").cps.toList = [119] := by decide +kernel
theorem wf_var {nm : D → Bool} {z : Int} (h0 : 0 ≤ z) (h1 : z ≤ 99) : wfG nm false (.tup [.str "var", .int z]) = true := by
  refine wfG_mk shape_var kind_var ?_
  rw [len_n, wfL_cons]
  simp [dueB, numD, h0, h1, wfL]
theorem wf_name {nm : D → Bool} {y : Str} (h : nm (.str y) = true) : wfG nm false (.tup [.str "name", .str y]) = true := by
  refine wfG_mk shape_name kind_name ?_
  rw [len_w, wfL_cons]
  simp [dueB, h, wfL]
variable {P : Program} {w : World} {K : PySem.W.Frag} {mg : Str → Option Value} {base : Heap} {f fN fM fS : Addr} {fd fdN fdM fdS : FuncData}
def w0 (k : Bool) : Str := if k then "nat" else "var"
variable {t : Adr}
end K20
end
section
set_option maxHeartbeats 1000000
namespace K20
open PySem L2 L3 KM
seal L2.PE L2.PS L2.PSs L2.PT L2.PW L2.PA L2.PG L2.PGs L2.PI L2.PC L2.PO L2.PPs L2.PK L3.PIf
variable {P : Program} {w : World} {K : PySem.W.Frag} {mg : Str → Option Value} {base : Heap} {t : Adr}
def rows18 : List (Str × List V) := [("nat", []), ("none", []), ("all", [.str "kind", .str "kind"]), ("some", [.str "kind", .str "kind"]), ("same", [.str "kind", .str "term", .str "term"]), ("var", []), ("fun", [.str "kind", .str "term"]),
  ("app", [.str "term", .str "term"]), ("zero", []), ("next", [.str "term"]), ("rec", [.str "kind", .str "term", .str "term", .str "term"]), ("like", [.str "kind", .str "term"]), ("carry", [.str "kind", .str "term", .str "term"]),
  ("never", [.str "kind", .str "term"]), ("pair", [.str "kind", .str "term", .str "term"]), ("first", [.str "term"]), ("second", [.str "term"]), ("name", [])]
def cDue (c : Nat) : V := if c = 107 then .str "kind" else .str "term"
def rowOk (r : Str × List V) : Bool := match shapeV r.1 with
  | .str s => decide (s.cps.size ≤ 4) && if r.1 = "var" then decide (s = "n") else if r.1 = "name" then decide (s = "w") else s.cps.toList.all (fun c => c == 107 || c == 116) && decide (r.2 = s.cps.toList.map cDue)
  | _ => false
theorem rows_ok : rows18.all rowOk = true := by decide +kernel
theorem lookup_mem {α : Type} {x : Str} {v : α} : ∀ {l : List (Str × α)}, l.lookup x = some v → (x, v) ∈ l
  | [], h => by simp at h
  | (k, u) :: l, h => by
    rw [List.lookup_cons] at h
    cases e : x == k with
    | true =>
      rw [e] at h
      obtain rfl : x = k := by simpa using e
      cases h
      exact List.mem_cons_self
    | false => rw [e] at h; exact List.mem_cons_of_mem _ (lookup_mem h)
theorem lookup_none {α : Type} {x : Str} : ∀ {l : List (Str × α)}, l.lookup x = none → x ∉ l.map (·.1)
  | [], _ => by simp
  | (k, u) :: l, h => by
    rw [List.lookup_cons] at h
    cases e : x == k with
    | true => rw [e] at h; cases h
    | false =>
      rw [e] at h
      have := lookup_none h
      have e : ¬ x = k := by simpa using e
      simp only [List.map_cons, List.mem_cons, not_or]
      exact ⟨e, this⟩
inductive Shp (w : Str) : Prop where
  | non (h1 : rows18.lookup w = none) (h2 : shapeV w = .non)
  | var (h1 : rows18.lookup w = some []) (h2 : w = "var")
  | name (h1 : rows18.lookup w = some []) (h2 : w = "name")
  | form (s : Str) (h1 : rows18.lookup w = some (s.cps.toList.map cDue)) (h2 : shapeV w = .str s) (h3 : w ≠ "var") (h4 : w ≠ "name") (h5 : ∀ c ∈ s.cps.toList, c = 107 ∨ c = 116) (h6 : s.cps.size ≤ 4)
theorem keyNone {tab : List (Key × V)} {w : Str} (h : ∀ k ∈ tab.map (·.1), k ≠ Sum.inr w) : valV tab (Sum.inr w : Key) = none := by
  cases e : valV tab (Sum.inr w : Key) with
  | none => rfl
  | some v =>
    exact absurd rfl (h _ (valV_in e))
def keyIn (k : Key) (l : List Str) : Bool := match k with
  | .inr x => decide (x ∈ l)
  | .inl _ => true
theorem shp (w : Str) : Shp w := by
  cases h : rows18.lookup w with
  | none =>
    refine .non h ?_
    have nm := lookup_none h
    have sub : ∀ tab : List (Key × V), (tab.map (·.1)).all (fun k => keyIn k (rows18.map (·.1))) = true → valV tab (Sum.inr w : Key) = none := fun tab ht => keyNone fun k hk z => by
      subst z
      have := List.all_eq_true.mp ht _ hk
      simp only [keyIn, decide_eq_true_eq] at this
      exact nm this
    have e1 := sub tab1 (by decide +kernel)
    have e2 := sub tab2 (by decide +kernel)
    have e3 := sub tab3 (by decide +kernel)
    unfold shapeV
    rw [e1, e2, e3]
    rfl
  | some ds =>
    have m := lookup_mem h
    have g := List.all_eq_true.mp rows_ok _ m
    unfold rowOk at g
    by_cases hv : w = "var"
    · subst hv
      exact .var (by decide +kernel) rfl
    · by_cases hn : w = "name"
      · subst hn
        exact .name (by decide +kernel) rfl
      · cases e : shapeV w with
        | str s =>
          rw [e] at g
          simp only [hv, hn, if_false, Bool.and_eq_true, List.all_eq_true, Bool.or_eq_true, beq_iff_eq, decide_eq_true_eq] at g
          obtain ⟨g1, g2, g3⟩ := g
          exact .form s (by rw [h, g3]) e hv hn g2 g1
        | _ => rw [e] at g; simp at g
end K20
end
section
set_option maxHeartbeats 1000000
namespace K20
open PySem L2 L3 KM
seal L2.PE L2.PS L2.PSs L2.PT L2.PW L2.PA L2.PG L2.PGs L2.PI L2.PC L2.PO L2.PPs L2.PK L3.PIf
variable {P : Program} {w : World} {K : PySem.W.Frag} {mg : Str → Option Value} {base : Heap} {t : Adr}
def leafW (x : Str) : Bool := decide (x = "var") || decide (x = "name")
def kidsD (x : Str) (ps : List D) : List D := if leafW x = true then [] else ps
def spKids : Sp := fun vs H Q _ => ∃ (x : Str) (ps : List D) (v : V), vs = [v] ∧ Rep H (.tup (.str x :: ps)) v ∧ ps.length ≤ 10 ∧ ∀ (a : Addr) (us : List V) (H' : Hp), H a = none → Same H H' → H' a = some (.lst us) → Reps H' (kidsD x ps) us → Q (.ref a) H'
theorem wfL_len {nm : D → Bool} : ∀ {cs : List Nat} {ps : List D}, wfL nm cs ps = true → cs.length = ps.length
  | [], [], _ => rfl
  | [], _ :: _, h => by simp [wfL] at h
  | _ :: _, [], h => by simp [wfL] at h
  | c :: cs, p :: ps, h => by
    rw [wfL_cons, Bool.and_eq_true] at h
    rw [List.length_cons, List.length_cons, wfL_len h.2]
def ktB (c : Nat) : Bool := !(Builtin.Str.occurrences (Str.ofString "kt") ⟨#[c]⟩ 0 (Str.ofString "kt").length 1).isEmpty
theorem kt1 : ktB 107 = true := by decide +kernel
theorem kt2 : ktB 116 = true := by decide +kernel
theorem kt3 : ktB 110 = false := by decide +kernel
theorem kt4 : ktB 119 = false := by decide +kernel
theorem wf_shape {nm : D → Bool} {k : Bool} {x : Str} {ps : List D} (h : wfG nm k (.tup (.str x :: ps)) = true) : ∃ s, shapeV x = .str s ∧ kindW x = k ∧ wfL nm s.cps.toList ps = true ∧ s.cps.size ≤ 4 ∧ s.cps.toList.length = ps.length ∧ (∀ c ∈ s.cps.toList, ktB c = !leafW x) ∧
    (leafW x = false → ∀ c ∈ s.cps.toList, c = 107 ∨ c = 116) ∧ ∃ r, rows18.lookup x = some r ∧ r.length = (kidsD x ps).length := by
  have key : ∀ s, shapeV x = .str s → kindW x = k ∧ wfL nm s.cps.toList ps = true := fun s e => by
    rw [wfG, e, Bool.and_eq_true] at h
    exact ⟨by simpa using h.1, h.2⟩
  cases shp x with
  | non h1 h2 => rw [wfG, h2] at h; simp at h
  | var h1 h2 =>
    subst h2
    obtain ⟨k1, k2⟩ := key _ shape_var
    refine ⟨_, shape_var, k1, k2, by decide, wfL_len k2, fun c hc => ?_, fun z => absurd z (by decide +kernel), _, h1, by unfold kidsD; rw [if_pos (by decide +kernel)]; rfl⟩
    rw [len_n] at hc
    rw [List.mem_singleton.mp hc, kt3]
    decide +kernel
  | name h1 h2 =>
    subst h2
    obtain ⟨k1, k2⟩ := key _ shape_name
    refine ⟨_, shape_name, k1, k2, by decide, wfL_len k2, fun c hc => ?_, fun z => absurd z (by decide +kernel), _, h1, by unfold kidsD; rw [if_pos (by decide +kernel)]; rfl⟩
    rw [len_w] at hc
    rw [List.mem_singleton.mp hc, kt4]
    decide +kernel
  | form s h1 h2 h3 h4 h5 h6 =>
    obtain ⟨k1, k2⟩ := key s h2
    have nl : leafW x = false := by unfold leafW; simp [h3, h4]
    refine ⟨s, h2, k1, k2, h6, wfL_len k2, fun c hc => ?_, fun _ => h5, _, h1, ?_⟩
    · rw [nl]
      rcases h5 c hc with z | z <;> rw [z]
      · exact kt1
      · exact kt2
    · unfold kidsD
      rw [nl, List.length_map, wfL_len k2]
      rfl
end K20
end
section
set_option maxHeartbeats 1000000
namespace K20
open PySem L2 L3 KM PyProof.Rows
seal L2.PE L2.PS L2.PSs L2.PT L2.PW L2.PA L2.PG L2.PGs L2.PI L2.PC L2.PO L2.PPs L2.PK L3.PIf
variable {P : Program} {w : World} {K : PySem.W.Frag} {mg : Str → Option Value} {base : Heap} {t : Adr}
theorem inV_strs (x : Str) : ∀ ws : List Str, inV (.str x) (ws.map V.str) = decide (x ∈ ws)
  | [] => rfl
  | y :: ws => by
    have ih := inV_strs x ws
    unfold inV at ih ⊢
    rw [List.map_cons, List.any_cons, ih]
    show (y == x || decide (x ∈ ws)) = decide (x ∈ y :: ws)
    by_cases e : y = x
    · subst e; simp
    · have e' : ¬ x = y := fun z => e z.symm
      simp [e, e']
end K20
end
section
set_option maxHeartbeats 1000000
namespace K20
open PySem L2 L3 KM PyProof.Rows
seal L2.PE L2.PS L2.PSs L2.PT L2.PW L2.PA L2.PG L2.PGs L2.PI L2.PC L2.PO L2.PPs L2.PK L3.PIf
variable {P : Program} {w : World} {K : PySem.W.Frag} {mg : Str → Option Value} {base : Heap} {t : Adr}
theorem depth_get : ∀ {ps : List D} {i : Nat} {p : D}, ps[i]? = some p → depth p ≤ depthL ps
  | [], _, _, e => by simp at e
  | p :: ps, 0, _, e => by
    simp at e
    subst e
    simp only [depthL]
    omega
  | _ :: ps, i + 1, p, e => by
    have := depth_get (ps := ps) (i := i) (by simpa using e)
    simp only [depthL]
    omega
end K20
end
section
namespace L3
open PySem PySem.Spec PyProof.Rows L2 KM
theorem cat_tup0 {prog : Program} {w : World} {A : Around} {E : Value → Shared → Prop} {s : Shared} {t b : Addr} {ws : List Value} {Q : Value → Shared → Prop} (ht : IsTup s.heap t (([] : List Value)).toArray) (hb : IsTup s.heap b ws.toArray) (h1 : Q (.ref b) s) :
    wpAny (model prog w) A (binaryOp .Add (.ref t) (.ref b)) Q E s := by
  obtain ⟨⟨cls, dd, data, sl⟩, ho, hc, n, hd⟩ := id ht
  obtain ⟨⟨cls2, dd2, data2, sl2⟩, ho2, hc2, n2, hd2⟩ := id hb
  simp only at hc hd hc2 hd2
  subst hc hd hc2 hd2
  exact concat_meets ⟨_, ho, rfl⟩ ⟨_, ho2, rfl⟩ noFill_tuple_add seq_tuple_add PySem.F.slot_tuple_add PySem.F.entry_tuple_add (PySem.F.args_tuple_add_2 _ _) (tuple_addW0 t b _ ws.toArray n n2 dd dd2 sl sl2 (by simp)) ⟨ho, ho2, h1⟩
def rCat0 (K : PySem.W.Frag) : R2 := fun x y H Q => ∃ a b xs ys, x = .ref a ∧ y = .ref b ∧ SqT K H a xs ∧ SqT K H b ys ∧ xs.length + ys.length ≤ sizeLine ∧ (xs = [] → Q (.ref b) H) ∧ (xs ≠ [] → ys = [] → Q (.ref a) H) ∧
  (xs ≠ [] → ys ≠ [] → ∀ p, H p = none → Q (.ref p) (upd H p (.tup (xs ++ ys))))
theorem op_cat0 {X : Cx} : OpR X (binaryOp .Add) (rCat0 X.K) := by
  intro pins s σ H x y v u Q I rx ry h
  obtain ⟨a, b, xs, ys, rfl, rfl, ha, hb, hz, q0, q1, q2⟩ := h
  by_cases hx : xs = []
  · cases rx
    cases ry
    subst hx
    obtain ⟨its, r1, p1, _⟩ := I.tuple ha
    obtain ⟨its2, r2, p2, _⟩ := I.tuple hb
    have e : its = [] := r1.nil_iff.mpr rfl
    subst e
    exact cat_tup0 p1 p2 ⟨.ref b, H, I, rfl, q0 rfl⟩
  · exact op_catT pins s σ H _ _ v u Q I rx ry ⟨a, b, xs, ys, rfl, rfl, ha, hb, hx, hz, q1 hx, q2 hx⟩
def rCatU : R2 := fun x y H Q => ∃ a b xs ys, x = .ref a ∧ y = .ref b ∧ H a = some (.tup xs) ∧ H b = some (.tup ys) ∧ xs.length + ys.length ≤ sizeLine ∧ ∀ p H', Same H H' → H' p = some (.tup (xs ++ ys)) → Q (.ref p) H'
theorem op_catU {X : Cx} : OpR X (binaryOp .Add) rCatU := by
  intro pins s σ H x y v u Q I rx ry h
  obtain ⟨a, b, xs, ys, rfl, rfl, ha, hb, hz, q⟩ := h
  refine op_cat0 pins s σ H _ _ v u Q I rx ry ⟨a, b, xs, ys, rfl, rfl, SqT.of ha, SqT.of hb, hz, fun e => ?_, fun _ e => ?_, fun _ _ p hp => q p _ (same_new hp _) upd_same⟩
  · subst e
    exact q b H (Same.refl H) hb
  · subst e
    exact q a H (Same.refl H) (by rw [List.append_nil]; exact ha)
mutual
theorem Rep.updL {H : Hp} {p : Addr} {xs : List V} {o : HO} (h : H p = some (.lst xs)) : ∀ {d : D} {v : V}, Rep H d v → Rep (upd H p o) d v
  | .non, _, r => r
  | .bl _, _, r => r
  | .int _, _, r => r
  | .str _, _, r => r
  | .tup _, _, ⟨a, vs, e, q, r⟩ => ⟨a, vs, e, by rw [upd_ne (ne_of q h (by simp))]; exact q, Reps.updL h r⟩
theorem Reps.updL {H : Hp} {p : Addr} {xs : List V} {o : HO} (h : H p = some (.lst xs)) : ∀ {ds : List D} {vs : List V}, Reps H ds vs → Reps (upd H p o) ds vs
  | [], _, r => r
  | _ :: _, _, ⟨v, r, e, q, t⟩ => ⟨v, r, e, Rep.updL h q, Reps.updL h t⟩
end
end L3
namespace L3
open PySem PySem.Spec PyProof.Rows L2
end L3
end
section
namespace L3
open PySem PySem.Spec PyProof.Rows L2 KM
theorem get_le_sum : ∀ (ns : List Nat) (k : Nat), (ns[k]?).getD 0 ≤ ns.sum
  | [], _ => by simp
  | n :: ns, 0 => by simp
  | n :: ns, k + 1 => by
    have := get_le_sum ns k
    simp only [List.getElem?_cons_succ, List.sum_cons]
    omega
end L3
end
section
set_option maxHeartbeats 1000000
namespace K20
open PySem L2 L3 KM PyProof.Rows
seal L2.PE L2.PS L2.PSs L2.PT L2.PW L2.PA L2.PG L2.PGs L2.PI L2.PC L2.PO L2.PPs L2.PK L3.PIf
variable {P : Program} {w : World} {K : PySem.W.Frag} {mg : Str → Option Value} {base : Heap} {t : Adr}
mutual
def plc : D → List (List Nat)
  | .tup (.str x :: ps) => [] :: (if leafW x = true then [] else plcL 0 ps)
  | _ => []
def plcL : Nat → List D → List (List Nat)
  | _, [] => []
  | i, d :: ds => (plc d).map (i :: ·) ++ plcL (i + 1) ds
end
theorem plc_eq (x : Str) (ps : List D) : plc (.tup (.str x :: ps)) = [] :: plcL 0 (kidsD x ps) := by
  rw [plc]
  unfold kidsD
  split
  · rw [plcL]
  · rfl
theorem plcL_snoc (d : D) : ∀ (j : Nat) (l : List D), plcL j (l ++ [d]) = plcL j l ++ (plc d).map ((j + l.length) :: ·)
  | j, [] => by
    show plcL j (d :: []) = plcL j [] ++ _
    rw [plcL, plcL, plcL]
    simp
  | j, e :: l => by
    show plcL j (e :: (l ++ [d])) = plcL j (e :: l) ++ _
    rw [plcL, plcL, plcL_snoc d (j + 1) l, List.append_assoc, List.length_cons, show j + 1 + l.length = j + (l.length + 1) by omega]
theorem plcL_take : ∀ (i j : Nat) (l : List D), (plcL j (l.take i)).length ≤ (plcL j l).length
  | 0, j, l => by rw [List.take_zero, plcL]; exact Nat.zero_le _
  | i + 1, j, [] => by rw [List.take_nil]; exact Nat.le_refl _
  | i + 1, j, e :: l => by
    rw [List.take_succ_cons, plcL, plcL, List.length_append, List.length_append]
    have := plcL_take i (j + 1) l
    omega
theorem take_snoc {l : List D} {i : Nat} {d : D} (h : l[i]? = some d) : l.take (i + 1) = l.take i ++ [d] := by
  rw [List.take_add_one, h]
  rfl
def plD (pl : List Nat) : D := .tup (pl.map fun i => .int (i : Nat))
theorem range_map {α β : Type} (g : α → β) (z : α) (l : List α) : (List.range l.length).map (fun j => g ((l[j]?).getD z)) = l.map g := by
  induction l with
  | nil => rfl
  | cons a l ih =>
    rw [List.length_cons, List.range_succ_eq_map, List.map_cons, List.map_map, List.map_cons, ← ih]
    rfl
theorem wf_form {nm : D → Bool} {k : Bool} : ∀ {d : D}, wfG nm k d = true → ∃ x ps, d = .tup (.str x :: ps)
  | .tup (.str x :: ps), _ => ⟨x, ps, rfl⟩
  | .tup [], h => by simp [wfG] at h
  | .tup (.non :: _), h => by simp [wfG] at h
  | .tup (.bl _ :: _), h => by simp [wfG] at h
  | .tup (.int _ :: _), h => by simp [wfG] at h
  | .tup (.tup _ :: _), h => by simp [wfG] at h
  | .non, h => by simp [wfG] at h
  | .bl _, h => by simp [wfG] at h
  | .int _, h => by simp [wfG] at h
  | .str _, h => by simp [wfG] at h
theorem wfL_kid {nm : D → Bool} : ∀ {cs : List Nat} {ps : List D} {i : Nat} {p : D}, wfL nm cs ps = true → (∀ c ∈ cs, c = 107 ∨ c = 116) → ps[i]? = some p → ∃ k, wfG nm k p = true
  | [], [], _, _, _, _, e => by simp at e
  | [], _ :: _, _, _, h, _, _ => by simp [wfL] at h
  | _ :: _, [], _, _, h, _, _ => by simp [wfL] at h
  | c :: cs, q :: ps, 0, p, h, hc, e => by
    simp at e
    subst e
    rw [wfL_cons, Bool.and_eq_true] at h
    have h1 := h.1
    unfold dueB at h1
    rcases hc c List.mem_cons_self with z | z
    · rw [z, if_pos rfl] at h1
      exact ⟨true, h1⟩
    · rw [z, if_neg (by decide), if_pos rfl] at h1
      exact ⟨false, h1⟩
  | c :: cs, q :: ps, i + 1, p, h, hc, e => by
    rw [wfL_cons, Bool.and_eq_true] at h
    exact wfL_kid (i := i) h.2 (fun c hc' => hc c (List.mem_cons_of_mem _ hc')) (by simpa using e)
theorem wf_kid {k : Bool} {x : Str} {ps : List D} {i : Nat} {p : D} (h : wfG isStrD k (.tup (.str x :: ps)) = true) (e : (kidsD x ps)[i]? = some p) : (∃ k, wfG isStrD k p = true) ∧ depth p < depth (.tup (.str x :: ps)) := by
  obtain ⟨s, h1, h2, h3, h4, h5, h6, h7, _⟩ := wf_shape h
  unfold kidsD at e
  split at e
  · simp at e
  · rename_i nl
    refine ⟨wfL_kid h3 (h7 (by simpa using nl)) e, ?_⟩
    have := depth_get e
    simp only [depth, depthL]
    omega
theorem kids4 {k : Bool} {x : Str} {ps : List D} (h : wfG isStrD k (.tup (.str x :: ps)) = true) : (kidsD x ps).length ≤ 4 := by
  obtain ⟨s, h1, h2, h3, h4, h5, h6, h7, _⟩ := wf_shape h
  unfold kidsD
  split
  · exact Nat.zero_le _
  · rw [← h5]; simpa using h4
structure Rt (d : D) (n : Nat) : Prop where
  wf : ∃ k, wfG isStrD k d = true
  dp : depth d < n
  ct : (plc d).length ≤ 2000000
  n60 : n ≤ 60
theorem Rt.kid {n : Nat} {x : Str} {ps : List D} {i : Nat} {p : D} (h : Rt (.tup (.str x :: ps)) (n + 1)) (e : (kidsD x ps)[i]? = some p) : Rt p n := by
  obtain ⟨k, wf⟩ := h.wf
  obtain ⟨w1, w2⟩ := wf_kid wf e
  have hd := h.dp
  have hc := h.ct
  have hn := h.n60
  refine ⟨w1, by omega, ?_, by omega⟩
  rw [plc_eq, List.length_cons] at hc
  have a1 := plcL_take (i + 1) 0 (kidsD x ps)
  rw [take_snoc e, plcL_snoc, List.length_append, List.length_map] at a1
  omega
theorem wf_app {nm : D → Bool} {d0 d1 : D} (h0 : wfG nm false d0 = true) (h1 : wfG nm false d1 = true) : wfG nm false (.tup [.str "app", d0, d1]) = true := by
  refine wfG_mk (w := "app") (s := "tt") (by decide +kernel) (by decide +kernel) ?_
  rw [show (Str.ofString "tt").cps.toList = [116, 116] by decide +kernel, wfL_cons, wfL_cons]
  simp [dueB, wfL, h0, h1]
theorem wf_fun {nm : D → Bool} {d0 d1 : D} (h0 : wfG nm true d0 = true) (h1 : wfG nm false d1 = true) : wfG nm false (.tup [.str "fun", d0, d1]) = true := by
  refine wfG_mk (w := "fun") (s := "kt") (by decide +kernel) (by decide +kernel) ?_
  rw [show (Str.ofString "kt").cps.toList = [107, 116] by decide +kernel, wfL_cons, wfL_cons]
  simp [dueB, wfL, h0, h1]
theorem wf_same {nm : D → Bool} {d0 d1 d2 : D} (h0 : wfG nm true d0 = true) (h1 : wfG nm false d1 = true) (h2 : wfG nm false d2 = true) : wfG nm true (.tup [.str "same", d0, d1, d2]) = true := by
  refine wfG_mk (w := "same") (s := "ktt") (by decide +kernel) (by decide +kernel) ?_
  rw [show (Str.ofString "ktt").cps.toList = [107, 116, 116] by decide +kernel, wfL_cons, wfL_cons, wfL_cons]
  simp [dueB, wfL, h0, h1, h2]
theorem wf_rec {nm : D → Bool} {d0 d1 d2 d3 : D} (h0 : wfG nm true d0 = true) (h1 : wfG nm false d1 = true) (h2 : wfG nm false d2 = true) (h3 : wfG nm false d3 = true) : wfG nm false (.tup [.str "rec", d0, d1, d2, d3]) = true := by
  refine wfG_mk (w := "rec") (s := "kttt") (by decide +kernel) (by decide +kernel) ?_
  rw [show (Str.ofString "kttt").cps.toList = [107, 116, 116, 116] by decide +kernel, wfL_cons, wfL_cons, wfL_cons, wfL_cons]
  simp [dueB, wfL, h0, h1, h2, h3]
theorem wf_carry {nm : D → Bool} {d0 d1 d2 : D} (h0 : wfG nm true d0 = true) (h1 : wfG nm false d1 = true) (h2 : wfG nm false d2 = true) : wfG nm false (.tup [.str "carry", d0, d1, d2]) = true := by
  refine wfG_mk (w := "carry") (s := "ktt") (by decide +kernel) (by decide +kernel) ?_
  rw [show (Str.ofString "ktt").cps.toList = [107, 116, 116] by decide +kernel, wfL_cons, wfL_cons, wfL_cons]
  simp [dueB, wfL, h0, h1, h2]
theorem wf_all {nm : D → Bool} {d0 d1 : D} (h0 : wfG nm true d0 = true) (h1 : wfG nm true d1 = true) : wfG nm true (.tup [.str "all", d0, d1]) = true := by
  refine wfG_mk (w := "all") (s := "kk") (by decide +kernel) (by decide +kernel) ?_
  rw [show (Str.ofString "kk").cps.toList = [107, 107] by decide +kernel, wfL_cons, wfL_cons]
  simp [dueB, wfL, h0, h1]
theorem wf_some {nm : D → Bool} {d0 d1 : D} (h0 : wfG nm true d0 = true) (h1 : wfG nm true d1 = true) : wfG nm true (.tup [.str "some", d0, d1]) = true := by
  refine wfG_mk (w := "some") (s := "kk") (by decide +kernel) (by decide +kernel) ?_
  rw [show (Str.ofString "kk").cps.toList = [107, 107] by decide +kernel, wfL_cons, wfL_cons]
  simp [dueB, wfL, h0, h1]
theorem wf_first {nm : D → Bool} {d0 : D} (h0 : wfG nm false d0 = true) : wfG nm false (.tup [.str "first", d0]) = true := by
  refine wfG_mk (w := "first") (s := "t") (by decide +kernel) (by decide +kernel) ?_
  rw [show (Str.ofString "t").cps.toList = [116] by decide +kernel, wfL_cons]
  simp [dueB, wfL, h0]
theorem wf_never {nm : D → Bool} {d0 d1 : D} (h0 : wfG nm true d0 = true) (h1 : wfG nm false d1 = true) : wfG nm false (.tup [.str "never", d0, d1]) = true := by
  refine wfG_mk (w := "never") (s := "kt") (by decide +kernel) (by decide +kernel) ?_
  rw [show (Str.ofString "kt").cps.toList = [107, 116] by decide +kernel, wfL_cons, wfL_cons]
  simp [dueB, wfL, h0, h1]
theorem wf_nat {nm : D → Bool}  : wfG nm true (.tup [.str "nat"]) = true := by
  refine wfG_mk (w := "nat") (s := "") (by decide +kernel) (by decide +kernel) ?_
  rw [show (Str.ofString "").cps.toList = [] by decide +kernel]
  simp [dueB, wfL]
theorem wf_zero {nm : D → Bool}  : wfG nm false (.tup [.str "zero"]) = true := by
  refine wfG_mk (w := "zero") (s := "") (by decide +kernel) (by decide +kernel) ?_
  rw [show (Str.ofString "").cps.toList = [] by decide +kernel]
  simp [dueB, wfL]
theorem wf_next {nm : D → Bool} {d0 : D} (h0 : wfG nm false d0 = true) : wfG nm false (.tup [.str "next", d0]) = true := by
  refine wfG_mk (w := "next") (s := "t") (by decide +kernel) (by decide +kernel) ?_
  rw [show (Str.ofString "t").cps.toList = [116] by decide +kernel, wfL_cons]
  simp [dueB, wfL, h0]
theorem rep_new {H : Hp} {p : Addr} {ds : List D} {vs : List V} (hp : H p = none) (r : Reps H ds vs) : Rep (upd H p (.tup vs)) (.tup ds) (.ref p) := ⟨p, vs, rfl, upd_same, r.mono (same_new hp _)⟩
theorem rs {H : Hp} {d : D} {v : V} {ds : List D} {vs : List V} (r : Rep H d v) (t : Reps H ds vs) : Reps H (d :: ds) (v :: vs) := ⟨v, vs, rfl, r, t⟩
theorem r0 {H : Hp} : Reps H [] [] := rfl
theorem rw_ {H : Hp} {x : Str} (h : x.length ≤ 1000 := by decide) : Rep H (.str x) (.str x) := ⟨rfl, h⟩
theorem ri {H : Hp} {i : Int} : Rep H (.int i) (.int i) := rfl
structure Th (d : D) (dp kn : Nat) : Prop where
  wf : wfG isStrD false d = true
  dp : depth d ≤ dp
  kn : knots d ≤ kn
def Wf (d : D) : Prop := ∃ k, wfG isStrD k d = true
theorem wf_ps {d : D} (h : Wf d) : ∃ x ps k, d = .tup (.str x :: ps) ∧ wfG isStrD k d = true ∧ ps.length ≤ 10 := by
  obtain ⟨k, h⟩ := h
  obtain ⟨x, ps, rfl⟩ := wf_form h
  obtain ⟨sh, _, _, _, h4, h5, _⟩ := wf_shape h
  refine ⟨x, ps, k, rfl, h, ?_⟩
  rw [← h5]
  exact Nat.le_trans (by simpa using h4) (by decide)
end K20
end
section
namespace L3
open PySem PySem.Spec PyProof.Rows L2 KM
end L3
namespace L3
open PySem PySem.Spec PyProof.Rows L2 KM
end L3
end
section
namespace L3
open PySem PySem.Spec PyProof.Rows L2
end L3
end
section
namespace L3
open PySem PySem.Spec PyProof.Rows L2 KM
end L3
end
section
set_option maxHeartbeats 1000000
namespace K20
open PySem L2 L3 KM PyProof.Rows
seal L2.PE L2.PS L2.PSs L2.PT L2.PW L2.PA L2.PG L2.PGs L2.PI L2.PC L2.PO L2.PPs L2.PK L3.PIf
variable {P : Program} {w : World} {K : PySem.W.Frag} {mg : Str → Option Value} {base : Heap} {t : Adr}
structure Tp (K : PySem.W.Frag) (a p : Addr) (ns : List Int) (H : Hp) (i : Int) : Prop where
  src : (a ≠ p ∧ Rd H a (.lst (ns.map V.int))) ∨ ∀ H' : Hp, SqL K H' a (ns.map V.int)
  len : ns.length ≤ 63
  tape : H p = some (.lst [.int i])
  i0 : 0 ≤ i
theorem Tp.scr {a p : Addr} {ns : List Int} {H : Hp} {i : Int} (T : Tp K a p ns H i) (H' : Hp) (s : SameX p H H') : SqL K H' a (ns.map V.int) := by
  rcases T.src with ⟨n, h | ⟨o, h⟩⟩ | h
  · exact .inl (.inl (s _ _ n h))
  · exact .inl (.inr ⟨o, s _ _ n h⟩)
  · exact h H'
theorem Tp.next {a p : Addr} {ns : List Int} {H H' : Hp} {i j : Int} (T : Tp K a p ns H i) (s : SameX p H H') (h : H' p = some (.lst [.int j])) (hj : 0 ≤ j) : Tp K a p ns H' j :=
  ⟨by
    rcases T.src with ⟨n, h | ⟨o, h⟩⟩ | h
    · exact .inl ⟨n, .inl (s _ _ n h)⟩
    · exact .inl ⟨n, .inr ⟨o, s _ _ n h⟩⟩
    · exact .inr h, T.len, h, hj⟩
theorem Tp.upd {a p b : Addr} {ns : List Int} {H : Hp} {i : Int} {kvs : List (Key × V)} {o : HO} (T : Tp K a p ns H i) (hb : H b = some (.dK kvs)) : Tp K a p ns (L2.upd H b o) i := by
  refine ⟨?_, T.len, ?_, T.i0⟩
  · rcases T.src with ⟨n, h | ⟨o, h⟩⟩ | h
    · exact .inl ⟨n, .inl (by rw [upd_ne (fun z => by rw [z, hb] at h; cases h)]; exact h)⟩
    · exact .inl ⟨n, .inr ⟨o, by rw [upd_ne (fun z => by rw [z, hb] at h; cases h)]; exact h⟩⟩
    · exact .inr h
  · rw [upd_ne (fun z => by have := T.tape; rw [z, hb] at this; cases this)]
    exact T.tape
theorem Tp.mono {a p : Addr} {ns : List Int} {H H' : Hp} {i : Int} (T : Tp K a p ns H i) (s : Same H H') : Tp K a p ns H' i := T.next s.x (s _ _ T.tape) T.i0
theorem Tp.rep {a p : Addr} {ns : List Int} {H H' : Hp} {i : Int} {d : D} {v : V} (T : Tp K a p ns H i) (s : SameX p H H') (r : Rep H d v) : Rep H' d v :=
  r.monoX s fun vs z => by rw [T.tape] at z; cases z
def spDraw (K : PySem.W.Frag) : Sp := fun vs H Q _ => ∃ (a p : Addr) (ns : List Int) (i m : Int), vs = [.ref a, .ref p, .int m] ∧ Tp K a p ns H i ∧ i < 2 ^ 60 ∧ 0 < m ∧
  ∀ (z : Int) (H' : Hp), 0 ≤ z → z < m → SameX p H H' → H' p = some (.lst [.int (i + 1)]) → Q (.int z) H'
theorem sc_law_draw : FnScope ["_law_script", "_law_tape", "_law_many", "_law_seed", "_law_cell"] ["_law_script", "_law_tape", "_law_many"] (defScope s_law_draw) := ⟨rfl, rfl, rfl, by decide +kernel, rfl, by decide +kernel, by decide +kernel⟩
theorem c_law_draw (D : Df K mg "_law_draw" s_law_draw ["_law_script", "_law_tape", "_law_many"]) (M : Mg mg t) : Cal P w K mg CX0 "_law_draw" (1) ["_law_script", "_law_tape", "_law_many"] (spDraw K) := by
  refine D.ok sc_law_draw (fun vs H Q E h => ?_) (fun base f cdv A outer s H vs Q E hr h => ?_)
  · obtain ⟨a, p, ns, i, m, rfl, _⟩ := h
    rfl
  obtain ⟨a, p, ns, i, m, rfl, T, hi, hm, q⟩ := h
  have i0 := T.i0
  refine ⟨_, (pss_cons (ps_asg (pe_op op_add (pe_ix ix_list (pv 1) pe_int (fun _ _ => rfl)) pe_int) (pg_sub (pv 1) pe_int set_list))
      (pss_cons (ps_if (pt_cmpR op_le (pe_ix ix_list (pv 1) pe_int (fun _ _ => rfl)) (pe_callB call_len_seq rfl M.n_len bt_len (pa_cons (pv 0) pa_nil)) (nomark _)) (pss_one (ps_ret (pe_op op_mod (pe_ix ix_list (pv 0) (pe_op op_sub (pe_ix ix_list (pv 1) pe_int (fun _ _ => rfl)) pe_int) (fun _ _ => rfl)) (pv 2)))) pss_nil)
      (pss_cons (ps_set (i := 3) sc_law_draw.nd rfl (by first | exact Or.inl rfl | exact Or.inr rfl) (pe_callB call_len_seq rfl M.n_len bt_len (pa_cons (pv 0) pa_nil)))
      (pss_cons (ps_for PassesOwn.never rfl (pi_list (pe_slice sl_list (pv 0) po_none (po_some pe_int))) (pg_name (i := 4) sc_law_draw.nd rfl (by first | exact Or.inl rfl | exact Or.inr rfl)) (pss_one (ps_set (i := 3) sc_law_draw.nd rfl (by first | exact Or.inl rfl | exact Or.inr rfl) (pe_op op_mod (pe_op op_add (pe_op op_mul (pv 3) pe_int) (pv 4)) pe_int))))
      (pss_one (ps_ret (pe_op op_mod (pe_op op_mod (pe_op op_mul (pe_op op_add (pv 3) pe_int) (pe_op op_add (pe_op op_mul (pe_ix ix_list (pv 1) pe_int (fun _ _ => rfl)) (pe_ix ix_list (pv 1) pe_int (fun _ _ => rfl))) pe_int)) pe_int) (pv 2)))))))), ?_⟩
  refine ⟨_, rfl, p, _, _, _, rfl, rfl, SqL.of T.tape, rfl, _, _, rfl, rfl, _, rfl, p, _, _, 0, rfl, rfl, T.tape, rfl, ?_⟩
  have e1 : (upd H p (.lst ([V.int i].set 0 (V.int (i + 1))))) p = some (.lst [.int (i + 1)]) := upd_same
  have x1 : SameX p H (upd H p (.lst ([V.int i].set 0 (V.int (i + 1))))) := SameX.upd _
  generalize upd H p (.lst ([V.int i].set 0 (V.int (i + 1)))) = H1 at e1 x1 ⊢
  have hS := T.scr H1 x1
  have hl : (ns.map V.int).length = ns.length := List.length_map _
  have hlen := T.len
  refine ⟨_, rfl, p, _, _, _, rfl, rfl, SqL.of e1, rfl, _, rfl, a, _, rfl, .inl hS, _, _, rfl, rfl, _, rfl, ?_⟩
  refine ite2 (fun c => ?_) (fun c => ?_)
  · have c : i + 1 ≤ (((ns.map V.int).length : Nat) : Int) := of_decide_eq_true c
    have hk : i.toNat < ns.length := by rw [hl] at c; omega
    have e2 : (i + 1 - 1 : Int) = ((i.toNat : Nat) : Int) := by omega
    refine ⟨_, rfl, _, rfl, p, _, _, _, rfl, rfl, SqL.of e1, rfl, _, _, rfl, rfl, a, _, _, .int ns[i.toNat], rfl, rfl, hS, ?_, _, rfl, _, _, rfl, rfl, hm, ?_⟩
    · rw [e2]
      exact atI_nat (by rw [List.getElem?_map, List.getElem?_eq_getElem hk]; rfl)
    · exact q _ H1 (Int.emod_nonneg _ (by omega)) (Int.emod_lt_of_pos _ hm) x1 e1
  · refine ⟨_, rfl, a, _, rfl, .inl hS, ?_⟩
    refine ⟨_, rfl, _, rfl, a, _, rfl, hS, fun p2 hp2 => ?_⟩
    have s2 := same_new hp2 (.lst (cutV (ns.map V.int) none (some 4)))
    have n2 : p ≠ p2 := ne_of_none e1 hp2
    have h2 : (upd H1 p2 (.lst (cutV (ns.map V.int) none (some 4)))) p2 = some (.lst (cutV (ns.map V.int) none (some 4))) := upd_same
    rw [show (4 : Int) = ((4 : Nat) : Int) from rfl, cutV_to, ← List.map_take] at s2 h2 ⊢
    generalize upd H1 p2 (.lst ((ns.take 4).map V.int)) = H2 at s2 h2 ⊢
    refine ⟨p2, rfl, ⟨_, SqL.of h2⟩, ?_⟩
    refine for_by (ns.take 4).length (fun j σ' H' => ∃ (z : Int) (cv : Option V), σ' = [some (.ref a), some (.ref p), some (.int m), some (.int z), cv] ∧ 0 ≤ z ∧ z < 2000000 ∧ H' = H2) ?_ ?_ ?_
    · exact ⟨_, none, rfl, by omega, by rw [hl]; omega, rfl⟩
    · rintro j σ' H' hj ⟨z, cv, rfl, z0, z1, rfl⟩
      have hj' : (ns.take 4)[j]? = some (ns.take 4)[j] := List.getElem?_eq_getElem hj
      have hw : ((ns.take 4).map V.int)[j]? = some (.int (ns.take 4)[j]) := by rw [List.getElem?_map, hj']; rfl
      refine ⟨⟨_, _, SqL.of h2, hw⟩, ?_⟩
      rintro x' H3 ⟨rfl, hy⟩
      have hy := hy _ (SqL.of h2)
      rw [hw] at hy
      cases hy
      refine ⟨_, rfl, _, _, rfl, rfl, .inl ⟨by omega, by omega⟩, _, rfl, _, _, rfl, rfl, _, _, rfl, rfl, (by show (0 : Int) < 1000003; decide), ?_⟩
      refine ⟨_, _, rfl, Int.emod_nonneg _ (by decide), ?_, rfl⟩
      have := Int.emod_lt_of_pos (z * 131 + (ns.take 4)[j]) (show (0 : Int) < 1000003 by decide)
      omega
    · rintro σ' H' ⟨z, cv, rfl, z0, z1, rfl⟩
      have e2 := s2 _ _ e1
      refine ⟨⟨_, SqL.of h2, by rw [List.length_map]; exact Nat.le_refl _⟩, ?_⟩
      refine ⟨_, rfl, _, _, rfl, rfl, _, rfl, p, _, _, _, rfl, rfl, SqL.of e2, rfl, _, rfl, p, _, _, _, rfl, rfl, SqL.of e2, rfl, _, _, rfl, rfl, .inl ⟨by omega, by omega⟩, _, _, rfl, rfl, _, _, rfl, rfl, .inl ⟨by omega, by omega⟩, _, _, rfl, rfl, (by show (0 : Int) < 1000003; decide), _, rfl, _, _, rfl, rfl, hm, ?_⟩
      exact q _ _ (Int.emod_nonneg _ (by omega)) (Int.emod_lt_of_pos _ hm) (x1.trans s2.x) e2
end K20
end
section
namespace L3
open PySem PySem.Spec PyProof.Rows L2 KM
section
variable {X : Cx}
def rIndex : V → List V → Hp → VK → Prop := fun x vs H Q => ∃ (z y : Str) (i : Nat) (rest : List Nat), x = .str z ∧ vs = [.str y] ∧ Builtin.Str.occurrences z y 0 z.length 1 = i :: rest ∧ Q (.int (i : Nat)) H
theorem mt_index : MtR X "str.index" rIndex := by
  intro pins s σ H x vs v us Q I rx rv h
  obtain ⟨z, y, i, rest, rfl, rfl, ho, q⟩ := h
  obtain ⟨u, rfl, ru⟩ := rv.one
  obtain ⟨t, rfl⟩ := (show ∃ t, v = Value.str z t from rx)
  obtain ⟨t2, rfl⟩ := (show ∃ t, u = Value.str y t from ru)
  exact SC.index ho ⟨.int (i : Nat), H, I.tok _, ⟨_, rfl⟩, q⟩
theorem strs_are : ∀ {ys : List Str} {us : List Value}, Vals (ys.map V.str) us → StrsAre us ys
  | [], _, .nil => .nil
  | y :: ys, _, .cons r t => by
    obtain ⟨tk, rfl⟩ := (show ∃ t, _ = Value.str y t from r)
    exact .cons y tk (strs_are t)
def rJoin (K : PySem.W.Frag) : V → List V → Hp → VK → Prop := fun x vs H Q => ∃ (z : Str) (l : Addr) (ys : List Str), x = .str z ∧ vs = [.ref l] ∧ SqL K H l (ys.map V.str) ∧ (ys.map (·.length)).sum + ys.length * z.length ≤ 16777216 ∧ Q (.str (Txt.join z ys)) H
theorem mt_join : MtR X "str.join" (rJoin X.K) := by
  intro pins s σ H x vs v us Q I rx rv h
  obtain ⟨z, l, ys, rfl, rfl, hl, ho, q⟩ := h
  obtain ⟨u, rfl, ru⟩ := rv.one
  obtain ⟨t, rfl⟩ := (show ∃ t, v = Value.str z t from rx)
  cases ru
  obtain ⟨its, r, p, _⟩ := I.list hl
  exact join_list p.isList (by simpa using strs_are r) ho fun t' k => ⟨.str _, H, I.tok _, ⟨_, rfl⟩, q⟩
theorem call_dictK : CallR X (.type "dict") (fun xs H Q => ∃ (a : Addr) (kvs : List (Key × V)), xs = [.ref a] ∧ H a = some (.dK kvs) ∧ ∀ p, H p = none → Q (.ref p) (upd H p (.dK kvs))) := by
  intro pins s σ H xs us Q I r h
  obtain ⟨a, kvs, rfl, ha, q⟩ := h
  obtain ⟨u, rfl, ru⟩ := r.one
  cases ru
  obtain ⟨z, hd, vs, rel, dd⟩ := dk_of I.hok ha
  have hf : H s.heap.objs.size = none := I.hok.fresh (Nat.le_refl _)
  refine PySem.kt_call_dict (knd := mixKind X.prog X.w) hd dd (by rw [← rel.length]; exact z) fun h' hn hs => ⟨.ref s.heap.objs.size, _, ?_, rfl, q _ hf⟩
  refine I.laid (a := s.heap.objs.size) (o := .dK kvs) (t' := s.toks) (fun b o e => ?_) (Nat.le_refl _) (dk_new z ?_ rel hn)
  · rw [hs.2 b (Nat.ne_of_lt (Heap.lt_size e))]
    exact Heap.get?_push_of_some _ e
  · exact beq_eq_false_iff_ne.mpr (Nat.ne_of_gt I.big)
theorem key_hit (A : Around) (s : Shared) {vs0 : List (Key × Value)} : ∀ (vs : List (Key × Value)), (∀ (k : Key) (v : Value), (k, v) ∈ vs → valueAt vs0 k = some v) → PySem.W.KeqHits A s vs0 vs true
  | [], _ => .nil
  | (k, v) :: r, h => PySem.W.KeqHits.hit (e := true) (b := true) (h _ _ List.mem_cons_self) (SeqAt.EqAt.same _) (key_hit A s r fun k v hk => h k v (List.mem_cons_of_mem _ hk))
theorem value_at {vs : List (Key × Value)} (nd : (vs.map (·.1)).Nodup) : ∀ (k : Key) (v : Value), (k, v) ∈ vs → valueAt vs k = some v := fun k v hm => by
  induction vs with
  | nil => cases hm
  | cons p r ih =>
    obtain ⟨k0, v0⟩ := p
    rw [List.map_cons, List.nodup_cons] at nd
    rcases List.mem_cons.mp hm with e | hm
    · cases e
      simp [valueAt]
    · have hne : k0 ≠ k := fun z => nd.1 (by rw [z]; exact List.mem_map.mpr ⟨(k, v), hm, rfl⟩)
      have := ih nd.2 hm
      simp [valueAt, hne] at this ⊢
      exact this
def rNeD : R2 := fun x y H Q => ∃ (a b : Addr) (kvs : List (Key × V)), x = .ref a ∧ y = .ref b ∧ H a = some (.dK kvs) ∧ H b = some (.dK kvs) ∧ (∀ k v, (k, v) ∈ kvs → ∃ c, v = V.ref c) ∧ Q (.bl false) H
theorem kv_eq : ∀ {kvs : List (Key × V)} {vs us : List (Key × Value)}, KV kvs vs → KV kvs us → (∀ k v, (k, v) ∈ kvs → ∃ c, v = V.ref c) → vs = us
  | [], _, _, .nil, .nil, _ => rfl
  | (k, v) :: r, (k1, v1) :: _, (k2, v2) :: _, .cons a t, .cons b u, h => by
    obtain ⟨c, rfl⟩ := h k v List.mem_cons_self
    have a1 : k = k1 := a.1
    have b1 : k = k2 := b.1
    have a2 : v1 = Value.ref c := a.2
    have b2 : v2 = Value.ref c := b.2
    rw [← a1, ← b1, a2, b2, kv_eq t u fun k v hk => h k v (List.mem_cons_of_mem _ hk)]
theorem op_neD (hu : X.A.units + 1 < cLine) : OpR X (compareOp .NotEq) rNeD := by
  intro pins s σ H x y v u Q I rx ry h
  obtain ⟨a, b, kvs, rfl, rfl, ha, hb, hr, q⟩ := h
  cases rx
  cases ry
  obtain ⟨z, hd, vs, rel, dd⟩ := dk_of I.hok ha
  obtain ⟨z', hd', us, rel', dd'⟩ := dk_of I.hok hb
  have e := kv_eq rel rel' hr
  subst e
  have nd : (vs.map (·.1)).Nodup := let ⟨_, _, _, _, _, _, _, _, hn⟩ := dd; hn
  refine PySem.W.keq_ne (knd := mixKind X.prog X.w) hd hd' dd dd' (by omega) (r := true) (fun _ => key_hit _ _ vs (value_at nd)) ⟨.bl false, H, I, ?_, q⟩
  show Value.bool _ = Value.bool false
  simp
theorem call_min2 (hh : X.A.handled = none) : CallR X (.builtin "min") (fun xs H Q => ∃ i j : Int, xs = [.int i, .int j] ∧ Q (.int (if j < i then j else i)) H) := by
  intro pins s σ H xs us Q I r h
  obtain ⟨i, j, rfl, q⟩ := h
  obtain ⟨u1, u2, rfl, r1, r2⟩ := Vals.two r
  obtain ⟨t1, rfl⟩ := (show ∃ t, u1 = Value.int i t from r1)
  obtain ⟨t2, rfl⟩ := (show ∃ t, u2 = Value.int j t from r2)
  refine min_two_ints hh fun h' tk hk => ⟨.int (if j < i then j else i), H, I.kept (h' := h') (t' := tk) hk, ?_, q⟩
  split
  · exact ⟨_, rfl⟩
  · exact ⟨_, rfl⟩
theorem call_max2 (hh : X.A.handled = none) : CallR X (.builtin "max") (fun xs H Q => ∃ i j : Int, xs = [.int i, .int j] ∧ Q (.int (if j > i then j else i)) H) := by
  intro pins s σ H xs us Q I r h
  obtain ⟨i, j, rfl, q⟩ := h
  obtain ⟨u1, u2, rfl, r1, r2⟩ := Vals.two r
  obtain ⟨t1, rfl⟩ := (show ∃ t, u1 = Value.int i t from r1)
  obtain ⟨t2, rfl⟩ := (show ∃ t, u2 = Value.int j t from r2)
  refine max_two_ints hh fun h' tk hk => ⟨.int (if j > i then j else i), H, I.kept (h' := h') (t' := tk) hk, ?_, q⟩
  split
  · exact ⟨_, rfl⟩
  · exact ⟨_, rfl⟩
end
section
variable {X : Cx} {pins : List (Addr × Obj)} {σ : L2.St} {H : Hp} {s : Shared} {a : Addr} {D : List (Str × V)} {k : Str} {tk : Tok} {A : Around} {E : Value → Shared → Prop}
theorem tab_get2 {Q : Value → Shared → Prop} {x : V} {u0 : Value} (T : TabK X.K a D) (I : Inv X pins σ H s) (rx : RelV x u0) (h : ∀ w', RelV ((KTD.datumAt k D).getD x) w' → Q w' { s with toks := s.toks + 1 }) : wpAny (model X.prog X.w) A (call (.builtin "dict.get") [.ref a, .str k tk, u0]) Q E s := by
  have ty := T.typeIs I
  refine wpAny_call_entry PySem.F.slot_dict_get ty PySem.F.entry_dict_get ?_ (PySem.F.args_dict_get_3 _ _ _)
  show wpAny (model X.prog X.w) _ (dictGet a (.str k tk) >>= _) _ _ s
  refine wpAny_bind (tab_get T I (fun v u e r => ?_) fun hn => ?_)
  · have h := h u (by rw [e]; exact r)
    exact wpAny_pure ⟨u, rfl, h⟩
  · have h := h u0 (by rw [hn]; exact rx)
    refine wpAny_bind ?_
    unfold Builtin.Dict.missed
    rw [T.sys]
    simp only [Bool.false_eq_true, if_false]
    exact wpAny_pure (wpAny_pure ⟨_, rfl, h⟩)
end
def tTGet2 (K : PySem.W.Frag) (td ty tx : TE) : TE := fun σ H Q => td σ H fun x H1 => ∃ a D, x = .ref a ∧ TabK K a D ∧ ty σ H1 fun y H2 => tx σ H2 fun z H3 => ∃ k, y = .str k ∧ Q ((KTD.datumAt k D).getD z) H3
theorem pe_tget2 {X : Cx} {o e f : Expr} {apos cpos : Pos} {td ty tx : TE} (ho : PE X o td) (he : PE X e ty) (hf : PE X f tx) (m : M2 X o "get" apos e f cpos) : PE X (.Call (.Attribute o "get" apos) [e, f] [] cpos) (tTGet2 X.K td ty tx) := by
  intro pins s σ H Q I h
  refine wpAny_Call_method m.base m.few m.line PySem.F.plainAttrs_dict PySem.F.slot_dict_get PySem.F.type_dict_get (thn (ho pins s σ H _ I h) fun u s1 ⟨x, H1, I1, rx, a, D, ex, T, q1⟩ => ?_)
  subst ex
  obtain rfl : u = Value.ref a := rx
  have t1 := T.typeIs I1
  refine ⟨t1, fun b q => ?_, ?_⟩
  · cases q
    obtain ⟨o, _, _, e, x, _⟩ := T.ex
    exact ⟨o, I1.kIn a o e, x.2.1⟩
  rw [m.trees]
  refine Calls.callWith_builtin rfl (Calls.evalArgs_plain (Calls.spliced_cons (thn (he pins s1 σ H1 _ I1 q1) fun iv s2 ⟨y, H2, I2, ry, q2⟩ =>
    Calls.spliced_cons (thn (hf pins s2 σ H2 _ I2 q2) fun fv s3 ⟨z, H3, I3, rz, k, ey, q3⟩ => Calls.spliced_nil ?_))))
  subst ey
  obtain ⟨t, rfl⟩ := ry
  exact tab_get2 T I3 rz fun w' r => ⟨_, H3, I3.tok _, r, q3⟩
theorem bt_min : bootBuiltins "min" = some (.builtin "min") := by decide +kernel
theorem bt_dict : bootBuiltins "dict" = some (.type "dict") := by decide +kernel
theorem comp_prop {J : It} {p : Addr} {H1 : Hp} {g : TG} {te : TE} {b : L2.St} {C : Hp → Prop} (n : Nat) (B : Nat → V → Prop) (hp : H1 p = none) (hn : n ≤ sizeLine)
    (hgo : ∀ i H2, i < n → Same H1 H2 → J.go i H2 ∧ ∀ x H3, J.yld i H2 x H3 → ∀ (R : V → Hp → Prop), (∀ (z : V) H6, Same H2 H6 → B i z → R z H6) → g x b H3 fun σ4 H4 => te σ4 H4 R)
    (hd : ∀ (ns : List V) H2, Same H1 H2 → ns.length = n → (∀ (i : Nat) (z : V), ns[i]? = some z → B i z) → H2 p = some (.lst ns) → J.stop n H2 ∧ C H2) :
    ∃ W : Nat → Nat → List V → Hp → Prop, (∃ m, W 0 m [] (upd H1 p (.lst []))) ∧ ∀ i m acc H2, W i m acc H2 → (J.stop i H2 ∧ C H2) ∨ (J.go i H2 ∧ ∀ x H3, J.yld i H2 x H3 → g x b H3 fun σ4 H4 => tYes σ4 H4 fun ok H5 =>
      if ok = true then te σ4 H5 fun v H6 => H6 p = some (.lst acc) ∧ acc.length < sizeLine ∧ ∃ m', m' < m ∧ W (i + 1) m' (acc ++ [v]) (upd H6 p (.lst (acc ++ [v]))) else ∃ m', m' < m ∧ W (i + 1) m' acc H5) := by
  refine comp_by (Q := fun _ H => C H) n (fun i acc H2 => acc.length = i ∧ (∀ (j : Nat) (z : V), acc[j]? = some z → B j z) ∧ H2 p = some (.lst acc) ∧ Same H1 H2) ⟨rfl, fun j z e => by simp at e, upd_same, same_new hp _⟩ ?_ ?_
  · rintro i acc H2 hi ⟨hl, hB, h2, s2⟩
    obtain ⟨g1, g2⟩ := hgo i H2 hi s2
    refine ⟨g1, fun x H3 y => ?_⟩
    simp only [tYes, if_true]
    refine g2 x H3 y _ fun z H6 s6 hz => ⟨s6 _ _ h2, by omega, nx hi ⟨by simp [hl], fun j y e => ?_, upd_same, same_upd (s2.trans s6) hp⟩⟩
    by_cases hj : j < acc.length
    · rw [List.getElem?_append_left hj] at e
      exact hB j y e
    · rw [List.getElem?_append_right (by omega)] at e
      have : j - acc.length = 0 := by
        by_cases q : j - acc.length = 0
        · exact q
        · rw [List.getElem?_eq_none (by simp; omega)] at e; cases e
      rw [this] at e
      simp at e
      subst e
      have : j = i := by omega
      rw [this]
      exact hz
  · rintro acc H2 ⟨hl, hB, h2, s2⟩
    exact hd acc H2 s2 hl hB h2
theorem vals_refs : ∀ (bs : List Addr), Vals (bs.map V.ref) (bs.map Value.ref)
  | [] => .nil
  | b :: bs => .cons rfl (vals_refs bs)
theorem sqr_mk {K : PySem.W.Frag} {a : Addr} {d : Option Addr} {its : Array Value} {n : Nat} {sl : Array (Option Value)} (bs : List Addr) (h : K.lookup a = some ⟨.type "tuple", d, .seq its n, sl⟩) (e : its.toList = bs.map Value.ref) (hl : bs.length ≤ 100 := by decide) : SqK K a (bs.map V.ref) := by
  refine ⟨_, its, n, h, rfl, rfl, ?_, by rw [e]; exact vals_refs bs⟩
  have h2 := congrArg List.length e
  rw [Array.length_toList, List.length_map] at h2
  rw [h2]
  exact Nat.le_trans hl (by decide)
theorem tabr_mk {K : PySem.W.Frag} {a : Addr} {es : Array DictEntry} {ep : Nat} (ks : List Str) (as : List Addr) (sy : (a == sysModules) = false) (lk : K.lookup a = some ⟨.type "dict", none, .dict es ep, #[]⟩) (c : rowsChk es.toList ks = true) (rf : refsOf es.toList = as) : TabK K a ((ks.zip as).map fun p => (p.1, V.ref p.2)) := by
  refine ⟨sy, _, es, ep, lk, ⟨rfl, rfl, rfl⟩, rfl, ?_⟩
  have h := rows_of c
  rw [rf] at h
  exact h
end L3
end
section
set_option maxHeartbeats 1000000
namespace K20
open PySem L2 L3 KM PyProof.Rows
seal L2.PE L2.PS L2.PSs L2.PT L2.PW L2.PA L2.PG L2.PGs L2.PI L2.PC L2.PO L2.PPs L2.PK L3.PIf
variable {P : Program} {w : World} {K : PySem.W.Frag} {mg : Str → Option Value} {base : Heap} {t : Adr}
theorem big {m : Nat} (h : m ≤ 1000) : m ≤ sizeLine := Nat.le_trans h (by decide)
theorem lapp (a b : Str) : (a ++ b).length = a.length + b.length := Array.size_append
def spNamed : Sp := fun vs H Q _ => ∃ x : Str, vs = [.str x] ∧ x.length ≤ 100 ∧ ∀ (y : Str) (H' : Hp), y.length ≤ 101 → Same H H' → Q (.str y) H'
theorem sc_law_named : FnScope ["_law_word"] ["_law_word"] (defScope s_law_named) := ⟨rfl, rfl, rfl, by decide +kernel, rfl, by decide +kernel, by decide +kernel⟩
theorem c_law_named (D : Df K mg "_law_named" s_law_named ["_law_word"]) (M : Mg mg t) : Cal P w K mg CX0 "_law_named" (1) ["_law_word"] spNamed := by
  refine D.ok sc_law_named (fun vs H Q E h => ?_) (fun base f cdv A outer s H vs Q E hr h => ?_)
  · obtain ⟨x, rfl, _⟩ := h
    rfl
  obtain ⟨x, rfl, hx, q⟩ := h
  refine ⟨_, (pss_cons (ps_if (pt_cmpR op_in_seq (pv 0) (pe_tup (pa_cons pe_str (pa_cons pe_str (pa_cons pe_str (pa_cons pe_str (pa_cons pe_str (pa_cons pe_str (pa_cons pe_str (pa_cons pe_str (pa_cons pe_str (pa_cons pe_str (pa_cons pe_str (pa_cons pe_str (pa_cons pe_str pa_nil)))))))))))))) rfl) (pss_one (ps_ret (pe_op op_add_str (pe_slS (pv 0) po_none (po_some (pe_un un_neg pe_int)) po_none) pe_str))) pss_nil)
      (pss_cons (ps_if (pt_cmpR op_in_seq (pv 0) (pe_tup (pa_cons pe_str (pa_cons pe_str (pa_cons pe_str (pa_cons pe_str (pa_cons pe_str pa_nil)))))) rfl) (pss_one (ps_ret (pe_op op_add_str (pe_slS (pv 0) po_none (po_some (pe_un un_neg pe_int)) po_none) pe_str))) pss_nil)
      (pss_one (ps_ret (pv 0))))), ?_⟩
  refine ⟨_, rfl, (by show 13 ≤ sizeLine; decide), fun p1 hp1 => ⟨p1, (["nat", "none", "all", "some", "same", "var", "fun", "app", "zero", "next", "rec", "like", "carry"] : List Str).map V.str, rfl, .inr (SqT.of upd_same), rfl, rfl, _, rfl, ?_⟩⟩
  have s1 : Same H _ := same_new hp1 (.tup ((["nat", "none", "all", "some", "same", "var", "fun", "app", "zero", "next", "rec", "like", "carry"] : List Str).map V.str))
  refine ite2 (fun c => ?_) (fun c => ?_)
  · refine ⟨_, rfl, _, rfl, _, rfl, x, rfl, big (by omega), (by simp), fun y hy => ⟨_, _, rfl, rfl, big (by show y.length + 1 ≤ 1000; omega), q _ _ (by rw [lapp]; show y.length + 1 ≤ 101; omega) s1⟩⟩
  · refine ⟨_, rfl, (by show 5 ≤ sizeLine; decide), fun p2 hp2 => ⟨p2, (["never", "pair", "first", "second", "name"] : List Str).map V.str, rfl, .inr (SqT.of upd_same), rfl, rfl, _, rfl, ?_⟩⟩
    have s2 := s1.trans (same_new hp2 (.tup ((["never", "pair", "first", "second", "name"] : List Str).map V.str)))
    refine ite2 (fun c => ?_) (fun c => ?_)
    · refine ⟨_, rfl, _, rfl, _, rfl, x, rfl, big (by omega), (by simp), fun y hy => ⟨_, _, rfl, rfl, big (by show y.length + 1 ≤ 1000; omega), q _ _ (by rw [lapp]; show y.length + 1 ≤ 101; omega) s2⟩⟩
    · exact ⟨_, rfl, q x _ (by omega) s2⟩
def letters : Str := "abcdefghijklmnopqrstuvwxyz"
def letC (j : Int) : Nat := (letters.cps.toList[(j % 26).toNat]?).getD 97
theorem let_len : letters.cps.toList.length = 26 := by decide +kernel
theorem let_at (j : Int) : atI letters.cps.toList (j % 26) = some (letC j) ∧ letC j ∈ letters.cps.toList := by
  have h0 := Int.emod_nonneg j (show (26 : Int) ≠ 0 by decide)
  have h1 := Int.emod_lt_of_pos j (show (0 : Int) < 26 by decide)
  have hl : (j % 26).toNat < letters.cps.toList.length := by rw [let_len]; omega
  have e : letters.cps.toList[(j % 26).toNat]? = some (letC j) := by
    unfold letC
    rw [List.getElem?_eq_getElem hl]
    rfl
  refine ⟨?_, List.mem_of_getElem? e⟩
  have ej : j % 26 = (((j % 26).toNat : Nat) : Int) := by omega
  rw [ej]
  exact atI_nat e
theorem let_idx : (letters.cps.toList.all fun c => match Builtin.Str.occurrences letters ⟨#[c]⟩ 0 letters.length 1 with
    | _ :: _ => true
    | [] => false) = true := by decide +kernel
theorem let_occ {c : Nat} (h : c ∈ letters.cps.toList) : ∃ i rest, Builtin.Str.occurrences letters ⟨#[c]⟩ 0 letters.length 1 = i :: rest := by
  have := List.all_eq_true.mp let_idx c h
  cases e : Builtin.Str.occurrences letters ⟨#[c]⟩ 0 letters.length 1 with
  | nil => rw [e] at this; cases this
  | cons i rest => exact ⟨i, rest, rfl⟩
theorem glue_fold : ∀ (cs : List Nat) (A : Array Nat), (cs.map fun c => (⟨#[c]⟩ : Str)).foldl (fun acc p => acc ++ (Str.ofString "").cps ++ p.cps) A = A ++ cs.toArray
  | [], A => by simp
  | c :: cs, A => by
    rw [List.map_cons, List.foldl_cons, glue_fold cs]
    have e : (Str.ofString "").cps = #[] := by decide +kernel
    rw [e]
    simp
theorem join_letters (cs : List Nat) : (Txt.join (Str.ofString "") (cs.map fun c => (⟨#[c]⟩ : Str))).cps.toList = cs := by
  cases cs with
  | nil => decide +kernel
  | cons c cs =>
    show ((((c :: cs).map fun c => (⟨#[c]⟩ : Str)).drop 1).foldl (fun acc p => acc ++ (Str.ofString "").cps ++ p.cps) (((c :: cs).map fun c => (⟨#[c]⟩ : Str)).headD Str.empty).cps).toList = c :: cs
    rw [List.map_cons, List.drop_succ_cons, List.drop_zero, glue_fold]
    simp
theorem sum_ones (cs : List Nat) : ((cs.map fun c => (⟨#[c]⟩ : Str)).map (·.length)).sum = cs.length := by
  induction cs with
  | nil => rfl
  | cons c cs ih =>
    rw [List.map_cons, List.map_cons, List.sum_cons, ih, List.length_cons]
    show 1 + cs.length = _
    omega
def spPool (K : PySem.W.Frag) : Sp := fun vs H Q _ => ∃ (a p : Addr) (ns : List Int) (i : Int), vs = [.ref a, .ref p] ∧ Tp K a p ns H i ∧ i < 2 ^ 59 ∧
  ∀ (c : Addr) (x y z : Str) (H' : Hp), x.length ≤ 101 → y.length ≤ 101 → z.length ≤ 101 → H' c = some (.lst [.str x, .str y, .str z]) → SameX p H H' → H' p = some (.lst [.int (i + 4)]) → Q (.ref c) H'
theorem sc_law_pool : FnScope ["_law_script", "_law_tape", "_law_letters", "_law_cell", "_law_size", "_law_word", "_law_at", "_law_other", "_law_words"] ["_law_script", "_law_tape"] (defScope s_law_pool) := ⟨rfl, rfl, rfl, by decide +kernel, rfl, by decide +kernel, by decide +kernel⟩
theorem c_law_pool (D : Df K mg "_law_pool" s_law_pool ["_law_script", "_law_tape"]) (M : Mg mg t) (F_law_draw : Cal P w K mg CX0 "_law_draw" (1) ["_law_script", "_law_tape", "_law_many"] (spDraw K)) (F_law_named : Cal P w K mg CX0 "_law_named" (1) ["_law_word"] spNamed) : Cal P w K mg CX0 "_law_pool" (2) ["_law_script", "_law_tape"] (spPool K) := by
  refine D.ok sc_law_pool (fun vs H Q E h => ?_) (fun base f cdv A outer s H vs Q E hr h => ?_)
  · obtain ⟨a, p, ns, i, rfl, _⟩ := h
    rfl
  obtain ⟨a, p, ns, i, rfl, T, hi, q⟩ := h
  refine ⟨_, (pss_cons (ps_set (i := 2) sc_law_pool.nd rfl (by first | exact Or.inl rfl | exact Or.inr rfl) pe_str)
      (pss_cons (ps_set (i := 3) sc_law_pool.nd rfl (by first | exact Or.inl rfl | exact Or.inr rfl) (pe_fn F_law_draw (hr.mono (by omega)) rfl pass0 (pa_cons (pv 0) (pa_cons (pv 1) (pa_cons (pe_op op_pow pe_int pe_int) pa_nil)))))
      (pss_cons (ps_set (i := 4) sc_law_pool.nd rfl (by first | exact Or.inl rfl | exact Or.inr rfl) (pe_op op_add pe_int (pe_fn F_law_draw (hr.mono (by omega)) rfl pass0 (pa_cons (pv 0) (pa_cons (pv 1) (pa_cons pe_int pa_nil))))))
      (pss_cons (ps_set (i := 5) sc_law_pool.nd rfl (by first | exact Or.inl rfl | exact Or.inr rfl) (pe_bm PySem.F.plainAttrs_str PySem.F.slot_str_join PySem.F.type_str_join mt_join pe_str (pa_cons (pe_comp (N' := ["_law_k", "_law_letters", "_law_cell"]) (own := 1) (fr := [2, 3]) rfl (blk_of (N := ["_law_script", "_law_tape", "_law_letters", "_law_cell", "_law_size", "_law_word", "_law_at", "_law_other", "_law_words"]) (sc := defScope s_law_pool) rfl rfl rfl (by decide +kernel)) (pi_range1 rfl M.n_range (pa_cons (pv 4) pa_nil)) (own_name (by decide)) (fun _ _ _ => (pg_name (i := 0) (show List.Nodup (["_law_k", "_law_letters", "_law_cell"] : List Str) by decide +kernel) rfl (Or.inl rfl))) (fun _ _ _ => pif_nil) (fun _ _ _ => (pe_ix ix_str (pv 1) (pe_op op_mod (pe_op op_add (pe_op op_fdiv (pv 2) (pe_op op_add (pv 0) pe_int)) (pe_op op_mul pe_int (pv 0))) pe_int) (fun _ _ => rfl)))) pa_nil)))
      (pss_cons (ps_set (i := 6) sc_law_pool.nd rfl (by first | exact Or.inl rfl | exact Or.inr rfl) (pe_fn F_law_draw (hr.mono (by omega)) rfl pass0 (pa_cons (pv 0) (pa_cons (pv 1) (pa_cons (pv 4) pa_nil)))))
      (pss_cons (ps_set (i := 7) sc_law_pool.nd rfl (by first | exact Or.inl rfl | exact Or.inr rfl) (pe_ix ix_str (pv 2) (pe_op op_mod (pe_op op_add (pe_op op_add (pe_bm PySem.F.plainAttrs_str PySem.F.slot_str_index PySem.F.type_str_index mt_index (pv 2) (pa_cons (pe_ix ix_str (pv 5) (pv 6) (fun _ _ => rfl)) pa_nil)) pe_int) (pe_fn F_law_draw (hr.mono (by omega)) rfl pass0 (pa_cons (pv 0) (pa_cons (pv 1) (pa_cons pe_int pa_nil))))) pe_int) (fun _ _ => rfl)))
      (pss_cons (ps_set (i := 8) sc_law_pool.nd rfl (by first | exact Or.inl rfl | exact Or.inr rfl) (pe_lst (pa_cons (pv 5) (pa_cons (pe_op op_add_str (pe_op op_add_str (pe_slS (pv 5) po_none (po_some (pv 6)) po_none) (pv 7)) (pe_slS (pv 5) (po_some (pe_op op_add (pv 6) pe_int)) po_none po_none)) (pa_cons (pe_slS (pe_op op_add_str (pv 7) (pv 5)) po_none (po_some pe_int) po_none) pa_nil)))))
      (pss_one (ps_ret (pe_comp (N' := ["_law_one"]) (own := 1) (fr := []) rfl (blk_of (N := ["_law_script", "_law_tape", "_law_letters", "_law_cell", "_law_size", "_law_word", "_law_at", "_law_other", "_law_words"]) (sc := defScope s_law_pool) rfl rfl rfl (by decide +kernel)) (pi_list (pv 8)) (own_name (by decide)) (fun _ _ _ => (pg_name (i := 0) (show List.Nodup (["_law_one"] : List Str) by decide +kernel) rfl (Or.inl rfl))) (fun _ _ _ => pif_nil) (fun _ _ _ => (pe_fn F_law_named (hr.mono (by omega)) rfl pass0 (pa_cons (pv 0) pa_nil))))))))))))), ?_⟩
  refine ⟨_, rfl, _, rfl, _, _, rfl, rfl, ⟨by decide, by decide, by decide⟩, a, p, ns, i, _, rfl, T, (by omega), (by decide), fun cell H1 c0 c1 x1 h1 => ?_⟩
  have T1 := T.next x1 h1 (by have := T.i0; omega)
  refine ⟨_, rfl, _, rfl, a, p, ns, i + 1, 12, rfl, T1, (by omega), (by decide), fun sz H2 z0 z1 x2 h2 => ⟨_, _, rfl, rfl, ?_⟩⟩
  have T2 := T1.next x2 h2 (by have := T.i0; omega)
  obtain ⟨m, em⟩ : ∃ m : Nat, 1 + sz = (m : Int) := ⟨(1 + sz).toNat, by omega⟩
  show gName 4 (V.int (1 + sz)) _ _ _
  rw [em]
  refine ⟨rfl, _, rfl, _, rfl, (by show -(2 ^ 62) ≤ ((m : Nat) : Int); omega), (by show ((m : Nat) : Int) < 2 ^ 62; omega), fun p3 hp3 => ?_⟩
  refine comp_vals m (fun k => V.str ⟨#[letC (cell / ((k : Nat) + 1) + 5 * (k : Nat))]⟩) hp3 (big (by omega)) (fun k H3 hk s3 => ⟨hk, ?_⟩) fun H3 s3 h3 => ⟨Nat.le_refl _, ?_⟩
  · rintro x' H4 ⟨rfl, rfl⟩ R hR
    have e0 : (0 : Int) + (k : Int) = ((k : Nat) : Int) := by omega
    rw [e0]
    refine ⟨_, rfl, _, rfl, _, rfl, _, _, rfl, rfl, _, _, rfl, rfl, ⟨by omega, by omega⟩, _, rfl, _, _, rfl, rfl, .inl ⟨by decide, by decide⟩, _, _, rfl, rfl, _, _, rfl, rfl, (by show (0 : Int) < 26; decide), letters, _, _, rfl, rfl, (by decide), (let_at _).1, hR _ (Same.refl _)⟩
  have e3 : (List.range m).map (fun k : Nat => V.str ⟨#[letC (cell / ((k : Nat) + 1) + 5 * (k : Nat))]⟩) = ((((List.range m).map fun k : Nat => letC (cell / ((k : Nat) + 1) + 5 * (k : Nat))).map fun c => (⟨#[c]⟩ : Str))).map V.str := by
    rw [List.map_map, List.map_map]
    rfl
  rw [e3] at h3
  have hcs : ∀ c ∈ ((List.range m).map fun k : Nat => letC (cell / ((k : Nat) + 1) + 5 * (k : Nat))), c ∈ letters.cps.toList := fun c hc => by
    obtain ⟨k, _, rfl⟩ := List.mem_map.mp hc
    exact (let_at _).2
  have hcl : ((List.range m).map fun k : Nat => letC (cell / ((k : Nat) + 1) + 5 * (k : Nat))).length = m := by rw [List.length_map, List.length_range]
  generalize ((List.range m).map fun k : Nat => letC (cell / ((k : Nat) + 1) + 5 * (k : Nat))) = cs at h3 hcs hcl e3
  refine ⟨_, p3, _, rfl, rfl, SqL.of h3, ?_, ?_⟩
  · rw [sum_ones, List.length_map]
    show cs.length + cs.length * 0 ≤ _
    omega
  have hW := join_letters cs
  have hWl : (Txt.join (Str.ofString "") (cs.map fun c => (⟨#[c]⟩ : Str))).length = m := by
    have := congrArg List.length hW
    rw [Array.length_toList] at this
    rw [← hcl, ← this]
    rfl
  generalize Txt.join (Str.ofString "") (cs.map fun c => (⟨#[c]⟩ : Str)) = W at hW hWl ⊢
  have T3 := T2.mono s3
  have i0 := T.i0
  refine ⟨_, rfl, _, rfl, _, rfl, a, p, ns, i + 1 + 1, m, rfl, T3, (by omega), (by omega), fun at_ H4 a0 a1 x4 h4 => ?_⟩
  have T4 := T3.next x4 h4 (by omega)
  obtain ⟨n, rfl⟩ : ∃ n : Nat, at_ = (n : Int) := ⟨at_.toNat, by omega⟩
  have hat : n < cs.length := by omega
  have hc : atI W.cps.toList (n : Int) = some cs[n] := by
    rw [hW]
    exact atI_nat (List.getElem?_eq_getElem hat)
  obtain ⟨ix, rest, hoc⟩ := let_occ (hcs _ (List.getElem_mem hat))
  refine ⟨_, rfl, _, rfl, rfl, _, rfl, _, rfl, W, _, _, rfl, rfl, big (by omega), hc, letters, _, ix, rest, rfl, rfl, hoc, _, _, rfl, rfl, _, rfl, _, rfl, a, p, ns, i + 1 + 1 + 1, 25, rfl, T4, (by omega), (by decide), fun r H5 r0 r1 x5 h5 => ?_⟩
  refine ⟨_, _, rfl, rfl, _, _, rfl, rfl, (by show (0 : Int) < 26; decide), letters, _, _, rfl, rfl, (by decide), (let_at _).1, ?_⟩
  have one : ∀ c : Nat, (⟨#[c]⟩ : Str).length = 1 := fun c => rfl
  generalize letC _ = oc
  refine ⟨_, rfl, _, rfl, _, rfl, _, rfl, W, rfl, big (by omega), (by simp), fun y1 hy1 => ?_⟩
  refine ⟨_, rfl, _, _, rfl, rfl, big (by rw [one]; omega), _, rfl, _, rfl, _, _, rfl, rfl, _, rfl, W, rfl, big (by omega), (by simp), fun y2 hy2 => ?_⟩
  refine ⟨_, _, rfl, rfl, big (by rw [lapp, one]; omega), _, rfl, _, rfl, _, _, rfl, rfl, big (by rw [one]; omega), _, rfl, _, rfl, big (by rw [lapp, one]; omega), (by simp), fun y3 hy3 => ?_⟩
  rw [lapp, one] at hy3
  refine ⟨(by show 3 ≤ sizeLine; decide), fun p6 hp6 => ?_⟩
  have s6 := same_new hp6 (.lst [V.str W, V.str (y1 ++ ⟨#[oc]⟩ ++ y2), V.str y3])
  have h6 : (upd H5 p6 (.lst [V.str W, V.str (y1 ++ ⟨#[oc]⟩ ++ y2), V.str y3])) p6 = some (.lst [V.str W, V.str (y1 ++ ⟨#[oc]⟩ ++ y2), V.str y3]) := upd_same
  generalize upd H5 p6 (.lst [V.str W, V.str (y1 ++ ⟨#[oc]⟩ ++ y2), V.str y3]) = H6 at s6 h6 ⊢
  have hl3 : ∀ z ∈ [W, y1 ++ ⟨#[oc]⟩ ++ y2, y3], z.length ≤ 100 := fun z hz => by
    simp only [List.mem_cons, List.not_mem_nil, or_false] at hz
    rcases hz with rfl | rfl | rfl
    · omega
    · rw [lapp, lapp, one]; omega
    · omega
  refine ⟨_, rfl, p6, rfl, ⟨_, SqL.of h6⟩, fun p7 hp7 => ?_⟩
  refine comp_prop 3 (fun _ v => ∃ y : Str, v = .str y ∧ y.length ≤ 101) hp7 (by decide) (fun k H7 hk s7 => ?_) fun vs H7 s7 hl hB h7 => ⟨⟨_, SqL.of (s7 _ _ h6), Nat.le_refl _⟩, ?_⟩
  · obtain ⟨z, hz, hzm⟩ : ∃ z : Str, [V.str W, V.str (y1 ++ ⟨#[oc]⟩ ++ y2), V.str y3][k]? = some (.str z) ∧ z ∈ [W, y1 ++ ⟨#[oc]⟩ ++ y2, y3] := by
      match k, hk with
      | 0, _ => exact ⟨_, rfl, by simp⟩
      | 1, _ => exact ⟨_, rfl, by simp⟩
      | 2, _ => exact ⟨_, rfl, by simp⟩
    refine ⟨⟨_, _, SqL.of (s7 _ _ h6), hz⟩, ?_⟩
    rintro x' H8 ⟨rfl, hy⟩ R hR
    have hx := hy _ (SqL.of (s7 _ _ h6))
    rw [hz] at hx
    cases hx
    exact ⟨_, rfl, z, rfl, hl3 z hzm, fun y H9 hy9 s9 => hR _ H9 s9 ⟨y, rfl, hy9⟩⟩
  · match vs, hl with
    | [v1, v2, v3], _ =>
      obtain ⟨q1, rfl, l1⟩ := hB 0 v1 rfl
      obtain ⟨q2, rfl, l2⟩ := hB 1 v2 rfl
      obtain ⟨q3, rfl, l3⟩ := hB 2 v3 rfl
      have s57 := s6.trans s7
      refine q p7 q1 q2 q3 H7 l1 l2 l3 h7 (((x1.trans x2).trans (s3.x.trans x4)).trans (x5.trans s57.x)) ?_
      rw [show i + 4 = i + 1 + 1 + 1 + 1 by omega]
      exact s57 _ _ h5
end K20
end
section
set_option maxHeartbeats 1000000
namespace K20
open PySem L2 L3 KM PyProof.Rows
seal L2.PE L2.PS L2.PSs L2.PT L2.PW L2.PA L2.PG L2.PGs L2.PI L2.PC L2.PO L2.PPs L2.PK L3.PIf
variable {P : Program} {w : World} {K : PySem.W.Frag} {mg : Str → Option Value} {base : Heap} {t : Adr}
def PlD (H : Hp) (c : Addr) : Prop := ∃ x y z : Str, x.length ≤ 101 ∧ y.length ≤ 101 ∧ z.length ≤ 101 ∧ H c = some (.lst [.str x, .str y, .str z])
structure Sg (K : PySem.W.Frag) (a p c : Addr) (ns : List Int) (H : Hp) (i : Int) : Prop where
  T : Tp K a p ns H i
  pl : PlD H c
theorem Sg.next {a p c : Addr} {ns : List Int} {H H' : Hp} {i j : Int} (g : Sg K a p c ns H i) (s : SameX p H H') (h : H' p = some (.lst [.int j])) (hj : 0 ≤ j) : Sg K a p c ns H' j := by
  refine ⟨g.T.next s h hj, ?_⟩
  obtain ⟨x, y, z, l1, l2, l3, hc⟩ := g.pl
  refine ⟨x, y, z, l1, l2, l3, s _ _ (fun e => ?_) hc⟩
  subst e
  rw [g.T.tape] at hc
  cases hc
theorem Sg.upd {a p c b : Addr} {ns : List Int} {H : Hp} {i : Int} {kvs : List (Key × V)} {o : HO} (g : Sg K a p c ns H i) (hb : H b = some (.dK kvs)) : Sg K a p c ns (L2.upd H b o) i := by
  refine ⟨g.T.upd hb, ?_⟩
  obtain ⟨x, y, z, l1, l2, l3, hc⟩ := g.pl
  refine ⟨x, y, z, l1, l2, l3, ?_⟩
  rw [upd_ne (fun e => by rw [e, hb] at hc; cases hc)]
  exact hc
theorem Sg.mono {a p c : Addr} {ns : List Int} {H H' : Hp} {i : Int} (g : Sg K a p c ns H i) (s : Same H H') : Sg K a p c ns H' i := g.next s.x (s _ _ g.T.tape) g.T.i0
theorem Sg.rep {a p c : Addr} {ns : List Int} {H H' : Hp} {i : Int} {d : D} {v : V} (g : Sg K a p c ns H i) (s : SameX p H H') (r : Rep H d v) : Rep H' d v := g.T.rep s r
def cst (n : Nat) : Int := 10 ^ (n + 1)
theorem cst_succ (n : Nat) : cst (n + 1) = 10 * cst n := by unfold cst; rw [Int.pow_succ]; omega
theorem cst_ge : ∀ n : Nat, 10 ≤ cst n
  | 0 => by decide
  | n + 1 => by have := cst_ge n; rw [cst_succ]; omega
def p5 (n : Nat) : Nat := 5 ^ n
theorem p5_succ (n : Nat) : p5 (n + 1) = 5 * p5 n := by unfold p5; rw [Nat.pow_succ]; omega
theorem p5_ge : ∀ n : Nat, 1 ≤ p5 n
  | 0 => by decide
  | n + 1 => by have := p5_ge n; rw [p5_succ]; omega
structure Ou (K : PySem.W.Frag) (a p c : Addr) (ns : List Int) (H : Hp) (i : Int) (k : Bool) (dp kn : Nat) (co : Int) (d : D) (v : V) (H' : Hp) (i' : Int) : Prop where
  r : Rep H' d v
  wf : wfG isStrD k d = true
  dp : depth d ≤ dp
  kn : knots d ≤ kn
  sx : SameX p H H'
  g : Sg K a p c ns H' i'
  lo : i ≤ i'
  hi : i' ≤ i + co
theorem Ou.weak {a p c : Addr} {ns : List Int} {H H' : Hp} {i i' : Int} {k : Bool} {dp kn dp' kn' : Nat} {co co' : Int} {d : D} {v : V} (o : Ou K a p c ns H i k dp kn co d v H' i') (h1 : dp ≤ dp') (h2 : kn ≤ kn') (h3 : co ≤ co') : Ou K a p c ns H i k dp' kn' co' d v H' i' :=
  ⟨o.r, o.wf, Nat.le_trans o.dp h1, Nat.le_trans o.kn h2, o.sx, o.g, o.lo, by have := o.hi; omega⟩
theorem Ou.after {a p c : Addr} {ns : List Int} {H H1 H' : Hp} {i j i' : Int} {k : Bool} {dp kn : Nat} {co co1 : Int} {d : D} {v : V} (o : Ou K a p c ns H1 j k dp kn co d v H' i') (s : SameX p H H1) (h1 : i ≤ j) (h2 : j ≤ i + co1) : Ou K a p c ns H i k dp kn (co1 + co) d v H' i' :=
  ⟨o.r, o.wf, o.dp, o.kn, s.trans o.sx, o.g, by have := o.lo; omega, by have := o.hi; omega⟩
theorem Ou.later {a p c : Addr} {ns : List Int} {H H' H2 : Hp} {i i' : Int} {k : Bool} {dp kn : Nat} {co : Int} {d : D} {v : V} (o : Ou K a p c ns H i k dp kn co d v H' i') (s : SameX p H' H2) : Rep H2 d v := o.g.rep s o.r
theorem made {a p c q : Addr} {ns : List Int} {H H2 : Hp} {i i2 : Int} {k : Bool} {dp kn : Nat} {co : Int} {ds : List D} {vs : List V} (s : SameX p H H2) (g : Sg K a p c ns H2 i2) (hq : H2 q = none) (r : Reps H2 ds vs) (wf : wfG isStrD k (.tup ds) = true) (h1 : depth (.tup ds) ≤ dp) (h2 : knots (.tup ds) ≤ kn) (lo : i ≤ i2) (hi : i2 ≤ i + co) :
    Ou K a p c ns H i k dp kn co (.tup ds) (.ref q) (upd H2 q (.tup vs)) i2 :=
  ⟨rep_new hq r, wf, h1, h2, s.trans (same_new hq _).x, g.mono (same_new hq _), lo, hi⟩
def spGen (K : PySem.W.Frag) (k : Bool) (n : Nat) : Sp := fun vs H Q _ => ∃ (a p c : Addr) (ns : List Int) (i deep near : Int), vs = [.ref a, .ref p, .int deep, .int near, .ref c] ∧ Sg K a p c ns H i ∧ i + cst n < 2 ^ 58 ∧ -1 ≤ deep ∧ deep + 1 < n ∧ n ≤ 10 ∧ 0 ≤ near ∧ near + n ≤ 99 ∧
  ∀ (d : D) (v : V) (H' : Hp) (i' : Int), Ou K a p c ns H i k (2 * n + 2) (3 * p5 n) (cst n) d v H' i' → Q v H'
def spHel (K : PySem.W.Frag) (n dp kn : Nat) (co : Int) : Sp := fun vs H Q _ => ∃ (a p c : Addr) (ns : List Int) (i deep near : Int), vs = [.ref a, .ref p, .int deep, .int near, .ref c] ∧ Sg K a p c ns H i ∧ i + 4 * cst n < 2 ^ 58 ∧ 1 ≤ deep ∧ deep < n ∧ n ≤ 9 ∧ 0 ≤ near ∧ near + n + 1 ≤ 99 ∧
  ∀ (d : D) (v : V) (H' : Hp) (i' : Int), Ou K a p c ns H i false dp kn co d v H' i' → Q v H'
def spLeaf (K : PySem.W.Frag) : Sp := fun vs H Q _ => ∃ (a p c : Addr) (ns : List Int) (i near : Int), vs = [.ref a, .ref p, .int near, .ref c] ∧ Sg K a p c ns H i ∧ i < 2 ^ 59 ∧ 0 ≤ near ∧ near ≤ 99 ∧
  ∀ (d : D) (v : V) (H' : Hp) (i' : Int), Ou K a p c ns H i false 2 2 2 d v H' i' → Q v H'
theorem sc_law_leaf : FnScope ["_law_script", "_law_tape", "_law_near", "_law_pool_here", "_law_way"] ["_law_script", "_law_tape", "_law_near", "_law_pool_here"] (defScope s_law_leaf) := ⟨rfl, rfl, rfl, by decide +kernel, rfl, by decide +kernel, by decide +kernel⟩
theorem c_law_leaf (D : Df K mg "_law_leaf" s_law_leaf ["_law_script", "_law_tape", "_law_near", "_law_pool_here"]) (M : Mg mg t) (F_law_draw : Cal P w K mg CX0 "_law_draw" (1) ["_law_script", "_law_tape", "_law_many"] (spDraw K)) : Cal P w K mg CX0 "_law_leaf" (201) ["_law_script", "_law_tape", "_law_near", "_law_pool_here"] (spLeaf K) := by
  refine D.ok sc_law_leaf (fun vs H Q E h => ?_) (fun base f cdv A outer s H vs Q E hr h => ?_)
  · obtain ⟨a, p, c, ns, i, near, rfl, _⟩ := h
    rfl
  obtain ⟨a, p, c, ns, i, near, rfl, g, hi, n0, n1, q⟩ := h
  have hh := hr.hd (by decide)
  have i0 := g.T.i0
  refine ⟨_, (pss_cons (ps_set (i := 4) sc_law_leaf.nd rfl (by first | exact Or.inl rfl | exact Or.inr rfl) (pe_fn F_law_draw (hr.mono (by omega)) rfl pass0 (pa_cons (pv 0) (pa_cons (pv 1) (pa_cons pe_int pa_nil)))))
      (pss_cons (ps_if (pt_cmpR op_eq (pv 4) pe_int (nomark _)) (pss_one (ps_ret (pe_tup (pa_cons pe_str pa_nil)))) pss_nil)
      (pss_cons (ps_if (pt_cmpR op_eq (pv 4) pe_int (nomark _)) (pss_one (ps_ret (pe_tup (pa_cons pe_str (pa_cons (pe_ix ix_list (pv 3) (pe_fn F_law_draw (hr.mono (by omega)) rfl pass0 (pa_cons (pv 0) (pa_cons (pv 1) (pa_cons pe_int pa_nil)))) (fun _ _ => rfl)) pa_nil))))) pss_nil)
      (pss_cons (ps_if (pt_cmpR op_eq (pv 2) pe_int (nomark _)) (pss_one (ps_ret (pe_tup (pa_cons pe_str (pa_cons (pe_tup (pa_cons pe_str pa_nil)) pa_nil))))) pss_nil)
      (pss_cons (ps_if (pt_cmpR op_eq (pv 4) pe_int (nomark _)) (pss_one (ps_ret (pe_tup (pa_cons pe_str (pa_cons (pe_fn F_law_draw (hr.mono (by omega)) rfl pass0 (pa_cons (pv 0) (pa_cons (pv 1) (pa_cons (pv 2) pa_nil)))) pa_nil))))) pss_nil)
      (pss_one (ps_ret (pe_tup (pa_cons pe_str (pa_cons (pe_fn F_law_draw (hr.mono (by omega)) rfl pass0 (pa_cons (pv 0) (pa_cons (pv 1) (pa_cons (pe_callB (call_min2 hh) rfl M.n_min bt_min (pa_cons (pv 2) (pa_cons pe_int pa_nil))) pa_nil)))) pa_nil)))))))))), ?_⟩
  refine ⟨_, rfl, _, rfl, a, p, ns, i, 6, rfl, g.T, (by omega), (by decide), fun way H1 w0 w1 x1 h1 => ?_⟩
  have g1 := g.next x1 h1 (by omega)
  have zero : ∀ {q : Addr}, H1 q = none → Ou K a p c ns H i false 2 2 2 (.tup [.str "zero"]) (.ref q) (upd H1 q (.tup [V.str "zero"])) (i + 1) := fun hq => made x1 g1 hq (rs rw_ r0) wf_zero (by simp [depth, depthL]) (by simp [knots, knotsL]) (by omega) (by omega)
  refine ⟨_, rfl, rfl, _, rfl, ite2 (fun _ => ⟨(by show 1 ≤ sizeLine; decide), fun q1 hq1 => q _ _ _ _ (zero hq1)⟩) (fun _ => ?_)⟩
  refine ⟨_, rfl, rfl, _, rfl, ite2 (fun _ => ?_) (fun _ => ?_)⟩
  · obtain ⟨x, y, z, l1, l2, l3, hc⟩ := g1.pl
    refine ⟨_, rfl, _, rfl, _, rfl, a, p, ns, i + 1, 3, rfl, g1.T, (by omega), (by decide), fun at_ H2 a0 a1 x2 h2 => ?_⟩
    have g2 := g1.next x2 h2 (by omega)
    have hc2 : H2 c = some (.lst [.str x, .str y, .str z]) := x2 _ _ (fun e => by subst e; rw [g1.T.tape] at hc; cases hc) hc
    obtain ⟨o, ho, hol⟩ : ∃ o : Str, atI [V.str x, .str y, .str z] at_ = some (.str o) ∧ o.length ≤ 101 := by
      have : at_ = 0 ∨ at_ = 1 ∨ at_ = 2 := by omega
      rcases this with rfl | rfl | rfl
      · exact ⟨x, rfl, l1⟩
      · exact ⟨y, rfl, l2⟩
      · exact ⟨z, rfl, l3⟩
    refine ⟨c, _, _, _, rfl, rfl, SqL.of hc2, ho, (by show 2 ≤ sizeLine; decide), fun q1 hq1 => q _ _ _ _ (made (x1.trans x2) g2 hq1 (rs rw_ (rs (rw_ (by omega)) r0)) (wf_name rfl) (by simp [depth, depthL]) (by simp [knots, knotsL]) (by omega) (by omega))⟩
  refine ⟨_, rfl, rfl, _, rfl, ite2 (fun _ => ?_) (fun cn => ?_)⟩
  · refine ⟨(by show 1 ≤ sizeLine; decide), fun q1 hq1 => ⟨(by show 2 ≤ sizeLine; decide), fun q2 hq2 => ?_⟩⟩
    have s1 := same_new hq1 (.tup [V.str "zero"])
    exact q _ _ _ _ (made (x1.trans s1.x) (g1.mono s1) hq2 (rs rw_ (rs (rep_new hq1 (rs rw_ r0)) r0)) (wf_next wf_zero) (by simp [depth, depthL]) (by simp [knots, knotsL]) (by omega) (by omega))
  have hn : 0 < near := by
    have : near ≠ 0 := fun z => cn (by rw [z]; exact decide_eq_true rfl)
    omega
  have var : ∀ {z : Int} {H2 : Hp} {q : Addr}, 0 ≤ z → z < near → SameX p H1 H2 → H2 p = some (.lst [.int (i + 1 + 1)]) → H2 q = none → Ou K a p c ns H i false 2 2 2 (.tup [.str "var", .int z]) (.ref q) (upd H2 q (.tup [V.str "var", .int z])) (i + 1 + 1) := fun z0 z1 x2 h2 hq =>
    made (x1.trans x2) (g1.next x2 h2 (by omega)) hq (rs rw_ (rs ri r0)) (wf_var z0 (by omega)) (by simp [depth, depthL]) (by simp [knots, knotsL]) (by omega) (by omega)
  refine ⟨_, rfl, rfl, _, rfl, ite2 (fun _ => ?_) (fun _ => ?_)⟩
  · refine ⟨_, rfl, _, rfl, _, rfl, a, p, ns, i + 1, near, rfl, g1.T, (by omega), hn, fun z H2 z0 z1 x2 h2 => ⟨(by show 2 ≤ sizeLine; decide), fun q1 hq1 => q _ _ _ _ (var z0 z1 x2 h2 hq1)⟩⟩
  · refine ⟨_, rfl, _, rfl, _, rfl, near, 3, rfl, a, p, ns, i + 1, _, rfl, g1.T, (by omega), (by split <;> omega), fun z H2 z0 z1 x2 h2 => ⟨(by show 2 ≤ sizeLine; decide), fun q1 hq1 => q _ _ _ _ (var z0 ?_ x2 h2 hq1)⟩⟩
    split at z1 <;> omega
end K20
end
section
set_option maxHeartbeats 2000000
namespace K20
open PySem L2 L3 KM PyProof.Rows
seal L2.PE L2.PS L2.PSs L2.PT L2.PW L2.PA L2.PG L2.PGs L2.PI L2.PC L2.PO L2.PPs L2.PK L3.PIf
variable {P : Program} {w : World} {K : PySem.W.Frag} {mg : Str → Option Value} {base : Heap} {t : Adr}
theorem wf_none {nm : D → Bool} : wfG nm true (.tup [.str "none"]) = true := by
  refine wfG_mk (w := "none") (s := "") (by decide +kernel) (by decide +kernel) ?_
  rw [show (Str.ofString "").cps.toList = [] by decide +kernel]
  simp [wfL]
theorem wf_like {nm : D → Bool} {d0 d1 : D} (h0 : wfG nm true d0 = true) (h1 : wfG nm false d1 = true) : wfG nm false (.tup [.str "like", d0, d1]) = true := by
  refine wfG_mk (w := "like") (s := "kt") (by decide +kernel) (by decide +kernel) ?_
  rw [show (Str.ofString "kt").cps.toList = [107, 116] by decide +kernel, wfL_cons, wfL_cons]
  simp [dueB, wfL, h0, h1]
theorem wf_pair {nm : D → Bool} {d0 d1 d2 : D} (h0 : wfG nm true d0 = true) (h1 : wfG nm false d1 = true) (h2 : wfG nm false d2 = true) : wfG nm false (.tup [.str "pair", d0, d1, d2]) = true := by
  refine wfG_mk (w := "pair") (s := "ktt") (by decide +kernel) (by decide +kernel) ?_
  rw [show (Str.ofString "ktt").cps.toList = [107, 116, 116] by decide +kernel, wfL_cons, wfL_cons, wfL_cons]
  simp [dueB, wfL, h0, h1, h2]
theorem wf_second {nm : D → Bool} {d0 : D} (h0 : wfG nm false d0 = true) : wfG nm false (.tup [.str "second", d0]) = true := by
  refine wfG_mk (w := "second") (s := "t") (by decide +kernel) (by decide +kernel) ?_
  rw [show (Str.ofString "t").cps.toList = [116] by decide +kernel, wfL_cons]
  simp [dueB, wfL, h0]
theorem sc_law_kind : FnScope ["_law_script", "_law_tape", "_law_deep", "_law_near", "_law_pool_here", "_law_way", "_law_first", "_law_kind_here"] ["_law_script", "_law_tape", "_law_deep", "_law_near", "_law_pool_here"] (defScope s_law_kind) := ⟨rfl, rfl, rfl, by decide +kernel, rfl, by decide +kernel, by decide +kernel⟩
theorem st_law_kind {n : Nat} (D : Df K mg "_law_kind" s_law_kind ["_law_script", "_law_tape", "_law_deep", "_law_near", "_law_pool_here"]) (M : Mg mg t) (F_law_draw : Cal P w K mg CX0 "_law_draw" (1) ["_law_script", "_law_tape", "_law_many"] (spDraw K)) (F_law_kind : Cal P w K mg CX0 "_law_kind" (3 * n + 202) ["_law_script", "_law_tape", "_law_deep", "_law_near", "_law_pool_here"] (spGen K true n)) (F_law_term : Cal P w K mg CX0 "_law_term" (3 * n + 202) ["_law_script", "_law_tape", "_law_deep", "_law_near", "_law_pool_here"] (spGen K false n)) : Cal P w K mg CX0 "_law_kind" (3 * n + 205) ["_law_script", "_law_tape", "_law_deep", "_law_near", "_law_pool_here"] (spGen K true (n + 1)) := by
  refine D.ok sc_law_kind (fun vs H Q E h => ?_) (fun base f cdv A outer s H vs Q E hr h => ?_)
  · obtain ⟨a, p, c, ns, i, deep, near, rfl, _⟩ := h
    rfl
  obtain ⟨a, p, c, ns, i, deep, near, rfl, g, hi, d0, d1, hn, n0, n1, q⟩ := h
  have i0 := g.T.i0
  have e := cst_succ n
  have c10 := cst_ge n
  have e5 := p5_succ n
  have p1 := p5_ge n
  rw [e] at hi q
  rw [e5] at q
  refine ⟨_, (pss_cons (ps_set (i := 5) sc_law_kind.nd rfl (by first | exact Or.inl rfl | exact Or.inr rfl) (pe_fn F_law_draw (hr.mono (by omega)) rfl pass0 (pa_cons (pv 0) (pa_cons (pv 1) (pa_cons pe_int pa_nil)))))
      (pss_cons (ps_if (L2.PW.pt (pw_or (pt_cmpR op_lt (pv 2) pe_int (nomark _)) (pw_or1 (pt_cmpR op_lt (pv 5) pe_int (nomark _))))) (pss_one (ps_ret (pe_ix ix_list (pe_lst (pa_cons (pe_tup (pa_cons pe_str pa_nil)) (pa_cons (pe_tup (pa_cons pe_str pa_nil)) (pa_cons (pe_tup (pa_cons pe_str pa_nil)) pa_nil)))) (pe_op op_mod (pv 5) pe_int) (fun _ _ => rfl)))) pss_nil)
      (pss_cons (ps_if (pt_cmpR op_lt (pv 5) pe_int (nomark _)) (pss_cons (ps_set (i := 6) sc_law_kind.nd rfl (by first | exact Or.inl rfl | exact Or.inr rfl) (pe_fn F_law_kind (hr.mono (by omega)) rfl pass0 (pa_cons (pv 0) (pa_cons (pv 1) (pa_cons (pe_op op_sub (pv 2) pe_int) (pa_cons (pv 3) (pa_cons (pv 4) pa_nil)))))))
      (pss_one (ps_ret (pe_tup (pa_cons (pe_ix ix_list (pe_lst (pa_cons pe_str (pa_cons pe_str pa_nil))) (pe_op op_sub (pv 5) pe_int) (fun _ _ => rfl)) (pa_cons (pv 6) (pa_cons (pe_fn F_law_kind (hr.mono (by omega)) rfl pass0 (pa_cons (pv 0) (pa_cons (pv 1) (pa_cons (pe_op op_sub (pv 2) pe_int) (pa_cons (pe_op op_add (pv 3) pe_int) (pa_cons (pv 4) pa_nil)))))) pa_nil))))))) pss_nil)
      (pss_cons (ps_set (i := 6) sc_law_kind.nd rfl (by first | exact Or.inl rfl | exact Or.inr rfl) (pe_fn F_law_term (hr.mono (by omega)) rfl pass0 (pa_cons (pv 0) (pa_cons (pv 1) (pa_cons (pe_op op_sub (pv 2) pe_int) (pa_cons (pv 3) (pa_cons (pv 4) pa_nil)))))))
      (pss_cons (ps_set (i := 7) sc_law_kind.nd rfl (by first | exact Or.inl rfl | exact Or.inr rfl) (pe_fn F_law_kind (hr.mono (by omega)) rfl pass0 (pa_cons (pv 0) (pa_cons (pv 1) (pa_cons (pe_op op_sub (pv 2) pe_int) (pa_cons (pv 3) (pa_cons (pv 4) pa_nil)))))))
      (pss_one (ps_ret (pe_tup (pa_cons pe_str (pa_cons (pv 7) (pa_cons (pv 6) (pa_cons (pe_fn F_law_term (hr.mono (by omega)) rfl pass0 (pa_cons (pv 0) (pa_cons (pv 1) (pa_cons (pe_op op_sub (pv 2) pe_int) (pa_cons (pv 3) (pa_cons (pv 4) pa_nil)))))) pa_nil)))))))))))), ?_⟩
  refine ⟨_, rfl, _, rfl, a, p, ns, i, 7, rfl, g.T, (by omega), (by decide), fun way H1 w0 w1 x1 h1 => ?_⟩
  have g1 := g.next x1 h1 (by omega)
  have leafs : ∀ H2 : Hp, SameX p H H2 → Sg K a p c ns H2 (i + 1) → ∀ (x : Str) (r : Addr), (x = "nat" ∨ x = "none") → Rep H2 (.tup [.str x]) (.ref r) → Q (.ref r) H2 := fun H2 sx g2 x r hx hr2 => by
    refine q (.tup [.str x]) _ H2 (i + 1) ⟨hr2, ?_, by simp only [depth, depthL]; omega, by simp only [knots, knotsL]; omega, sx, g2, by omega, by omega⟩
    rcases hx with rfl | rfl
    · exact wf_nat
    · exact wf_none
  refine ⟨_, rfl, _, _, rfl, rfl, _, rfl, ?_⟩
  have some3 : ∀ (R : VK), (∀ (H2 : Hp) (x : Str) (r : Addr), SameX p H H2 → Sg K a p c ns H2 (i + 1) → (x = "nat" ∨ x = "none") → Rep H2 (.tup [.str x]) (.ref r) → R (.ref r) H2) → ∀ (q1 q2 q3 q4 : Addr), H1 q1 = none → (upd H1 q1 (.tup [V.str "nat"])) q2 = none → (upd (upd H1 q1 (.tup [V.str "nat"])) q2 (.tup [V.str "nat"])) q3 = none → (upd (upd (upd H1 q1 (.tup [V.str "nat"])) q2 (.tup [V.str "nat"])) q3 (.tup [V.str "none"])) q4 = none →
      ∃ v, atI [V.ref q1, .ref q2, .ref q3] (way % 3) = some v ∧ (upd (upd (upd (upd H1 q1 (.tup [V.str "nat"])) q2 (.tup [V.str "nat"])) q3 (.tup [V.str "none"])) q4 (.lst [V.ref q1, .ref q2, .ref q3])) q4 = some (.lst [V.ref q1, .ref q2, .ref q3]) ∧ R v (upd (upd (upd (upd H1 q1 (.tup [V.str "nat"])) q2 (.tup [V.str "nat"])) q3 (.tup [V.str "none"])) q4 (.lst [V.ref q1, .ref q2, .ref q3])) := fun R hR q1 q2 q3 q4 e1 e2 e3 e4 => by
    have t1 := same_new e1 (.tup [V.str "nat"])
    have t2 := same_new e2 (.tup [V.str "nat"])
    have t3 := same_new e3 (.tup [V.str "none"])
    have t4 := same_new e4 (.lst [V.ref q1, .ref q2, .ref q3])
    have ra := (rep_new e1 (rs (rw_ (x := "nat")) r0)).mono (t2.trans (t3.trans t4))
    have rb := (rep_new e2 (rs (rw_ (x := "nat")) r0)).mono (t3.trans t4)
    have rc := (rep_new e3 (rs (rw_ (x := "none")) r0)).mono t4
    have tt := t1.trans (t2.trans (t3.trans t4))
    have h : way % 3 = 0 ∨ way % 3 = 1 ∨ way % 3 = 2 := by omega
    rcases h with h | h | h
    · exact ⟨_, by rw [h]; rfl, upd_same, hR _ "nat" q1 (x1.trans tt.x) (g1.mono tt) (.inl rfl) ra⟩
    · exact ⟨_, by rw [h]; rfl, upd_same, hR _ "nat" q2 (x1.trans tt.x) (g1.mono tt) (.inl rfl) rb⟩
    · exact ⟨_, by rw [h]; rfl, upd_same, hR _ "none" q3 (x1.trans tt.x) (g1.mono tt) (.inr rfl) rc⟩
  have one : 1 ≤ sizeLine := by decide
  refine ite2 (fun cd => ?_) (fun cd => ?_)
  · refine iteT ⟨one, fun q1 e1 => ⟨one, fun q2 e2 => ⟨one, fun q3 e3 => ⟨(by show 3 ≤ sizeLine; decide), fun q4 e4 => ?_⟩⟩⟩⟩
    obtain ⟨v, hv, h4, hq⟩ := some3 Q (fun H2 x r sx g2 hx hr2 => leafs H2 sx g2 x r hx hr2) q1 q2 q3 q4 e1 e2 e3 e4
    exact ⟨_, rfl, _, _, rfl, rfl, (by show (0 : Int) < 3; decide), q4, _, _, v, rfl, rfl, SqL.of h4, hv, hq⟩
  refine ⟨_, rfl, _, _, rfl, rfl, _, rfl, ?_⟩
  refine ite2 (fun cw => ?_) (fun cw => ?_)
  · refine ⟨one, fun q1 e1 => ⟨one, fun q2 e2 => ⟨one, fun q3 e3 => ⟨(by show 3 ≤ sizeLine; decide), fun q4 e4 => ?_⟩⟩⟩⟩
    obtain ⟨v, hv, h4, hq⟩ := some3 Q (fun H2 x r sx g2 hx hr2 => leafs H2 sx g2 x r hx hr2) q1 q2 q3 q4 e1 e2 e3 e4
    exact ⟨_, rfl, _, _, rfl, rfl, (by show (0 : Int) < 3; decide), q4, _, _, v, rfl, rfl, SqL.of h4, hv, hq⟩
  have cd : ¬ deep < 1 := of_decide_eq_false (Bool.eq_false_iff.mpr cd)
  have cw : ¬ way < 3 := of_decide_eq_false (Bool.eq_false_iff.mpr cw)
  refine ⟨_, rfl, _, _, rfl, rfl, _, rfl, ?_⟩
  refine ite2 (fun cw2 => ?_) (fun cw2 => ?_)
  · have cw2 : way < 5 := of_decide_eq_true cw2
    refine ⟨_, rfl, _, rfl, _, rfl, _, _, rfl, rfl, _, rfl, _, rfl, a, p, c, ns, i + 1, deep - 1, near, rfl, g1, (by omega), (by omega), (by omega), (by omega), n0, (by omega), fun dA vA H2 i2 oA => ?_⟩
    refine ⟨(by show 2 ≤ sizeLine; decide), fun q1 e1 => ?_⟩
    have t1 := same_new e1 (.lst [V.str "all", .str "some"])
    obtain ⟨y, hy, hyy⟩ : ∃ y : Str, atI [V.str "all", .str "some"] (way - 3) = some (.str y) ∧ (y = "all" ∨ y = "some") := by
      have : way = 3 ∨ way = 4 := by omega
      rcases this with rfl | rfl
      · exact ⟨_, rfl, .inl rfl⟩
      · exact ⟨_, rfl, .inr rfl⟩
    have hA := oA.hi
    have lA := oA.lo
    refine ⟨_, rfl, _, _, rfl, rfl, q1, _, _, _, rfl, rfl, SqL.of upd_same, hy, _, rfl, ?_⟩
    refine ⟨_, rfl, _, rfl, _, rfl, _, _, rfl, rfl, _, rfl, _, _, rfl, rfl, _, rfl, a, p, c, ns, i2, deep - 1, near + 1, rfl, oA.g.mono t1, (by omega), (by omega), (by omega), (by omega), (by omega), (by omega), fun dB vB H3 i3 oB => ⟨(by show 3 ≤ sizeLine; decide), fun q2 e2 => ?_⟩⟩
    have hB := oB.hi
    have lB := oB.lo
    have sAB := t1.x.trans oB.sx
    have a1 := oA.dp
    have a2 := oB.dp
    have a3 := oA.kn
    have a4 := oB.kn
    have hw : wfG isStrD true (.tup [.str y, dA, dB]) = true := by
      rcases hyy with rfl | rfl
      · exact wf_all oA.wf oB.wf
      · exact wf_some oA.wf oB.wf
    have hyl : y.length ≤ 1000 := by rcases hyy with rfl | rfl <;> decide
    exact q _ _ _ _ (made ((x1.trans oA.sx).trans sAB) oB.g e2 (rs (rw_ hyl) (rs (oA.later sAB) (rs oB.r r0))) hw (by simp only [depth, depthL]; omega) (by simp only [knots, knotsL]; omega) (by omega) (by omega))
  · refine ⟨_, rfl, _, rfl, _, rfl, _, _, rfl, rfl, _, rfl, _, rfl, a, p, c, ns, i + 1, deep - 1, near, rfl, g1, (by omega), (by omega), (by omega), (by omega), n0, (by omega), fun dA vA H2 i2 oA => ?_⟩
    have hA := oA.hi
    have lA := oA.lo
    refine ⟨_, rfl, _, rfl, _, rfl, _, _, rfl, rfl, _, rfl, _, rfl, a, p, c, ns, i2, deep - 2, near, rfl, oA.g, (by omega), (by omega), (by omega), (by omega), n0, (by omega), fun dB vB H3 i3 oB => ?_⟩
    have hB := oB.hi
    have lB := oB.lo
    refine ⟨_, rfl, _, rfl, _, rfl, _, rfl, _, rfl, _, _, rfl, rfl, _, rfl, _, rfl, a, p, c, ns, i3, deep - 1, near, rfl, oB.g, (by omega), (by omega), (by omega), (by omega), n0, (by omega), fun dC vC H4 i4 oC => ⟨(by show 4 ≤ sizeLine; decide), fun q2 e2 => ?_⟩⟩
    have hC := oC.hi
    have lC := oC.lo
    have a1 := oA.dp
    have a2 := oB.dp
    have a3 := oA.kn
    have a4 := oB.kn
    have a5 := oC.dp
    have a6 := oC.kn
    exact q _ _ _ _ (made ((x1.trans oA.sx).trans (oB.sx.trans oC.sx)) oC.g e2 (rs rw_ (rs (oB.later oC.sx) (rs (oA.later (oB.sx.trans oC.sx)) (rs oC.r r0)))) (wf_same oB.wf oA.wf oC.wf) (by simp only [depth, depthL]; omega) (by simp only [knots, knotsL]; omega) (by omega) (by omega))
end K20
end
section
set_option maxHeartbeats 2000000
namespace K20
open PySem L2 L3 KM PyProof.Rows
seal L2.PE L2.PS L2.PSs L2.PT L2.PW L2.PA L2.PG L2.PGs L2.PI L2.PC L2.PO L2.PPs L2.PK L3.PIf
variable {P : Program} {w : World} {K : PySem.W.Frag} {mg : Str → Option Value} {base : Heap} {t : Adr}
theorem sc_law_fun : FnScope ["_law_script", "_law_tape", "_law_deep", "_law_near", "_law_pool_here", "_law_kind_here"] ["_law_script", "_law_tape", "_law_deep", "_law_near", "_law_pool_here"] (defScope s_law_fun) := ⟨rfl, rfl, rfl, by decide +kernel, rfl, by decide +kernel, by decide +kernel⟩
theorem c_law_fun {n : Nat} (D : Df K mg "_law_fun" s_law_fun ["_law_script", "_law_tape", "_law_deep", "_law_near", "_law_pool_here"]) (M : Mg mg t) (F_law_kind : Cal P w K mg CX0 "_law_kind" (3 * n + 202) ["_law_script", "_law_tape", "_law_deep", "_law_near", "_law_pool_here"] (spGen K true n)) (F_law_term : Cal P w K mg CX0 "_law_term" (3 * n + 202) ["_law_script", "_law_tape", "_law_deep", "_law_near", "_law_pool_here"] (spGen K false n)) : Cal P w K mg CX0 "_law_fun" (3 * n + 203) ["_law_script", "_law_tape", "_law_deep", "_law_near", "_law_pool_here"] (spHel K n (2 * n + 3) (1 + 6 * p5 n) (2 * cst n)) := by
  refine D.ok sc_law_fun (fun vs H Q E h => ?_) (fun base f cdv A outer s H vs Q E hr h => ?_)
  · obtain ⟨a, p, c, ns, i, deep, near, rfl, _⟩ := h
    rfl
  obtain ⟨a, p, c, ns, i, deep, near, rfl, g, hi, d0, d1, hn, n0, n1, q⟩ := h
  have i0 := g.T.i0
  have c10 := cst_ge n
  have p1 := p5_ge n
  refine ⟨_, (pss_cons (ps_set (i := 5) sc_law_fun.nd rfl (by first | exact Or.inl rfl | exact Or.inr rfl) (pe_fn F_law_kind (hr.mono (by omega)) rfl pass0 (pa_cons (pv 0) (pa_cons (pv 1) (pa_cons (pe_op op_sub (pv 2) pe_int) (pa_cons (pv 3) (pa_cons (pv 4) pa_nil)))))))
      (pss_one (ps_ret (pe_tup (pa_cons pe_str (pa_cons (pv 5) (pa_cons (pe_fn F_law_term (hr.mono (by omega)) rfl pass0 (pa_cons (pv 0) (pa_cons (pv 1) (pa_cons (pe_op op_sub (pv 2) pe_int) (pa_cons (pe_op op_add (pv 3) pe_int) (pa_cons (pv 4) pa_nil)))))) pa_nil))))))), ?_⟩
  refine ⟨_, rfl, _, rfl, _, rfl, _, _, rfl, rfl, _, rfl, _, rfl, a, p, c, ns, i, deep - 2, near, rfl, g, (by omega), (by omega), (by omega), (by omega), (by omega), (by omega), fun dA vA H1 i1 oA => ?_⟩
  have hA := oA.hi
  have lA := oA.lo
  have dpA := oA.dp
  have knA := oA.kn
  refine ⟨_, rfl, _, rfl, _, rfl, _, rfl, _, _, rfl, rfl, _, rfl, _, _, rfl, rfl, _, rfl, a, p, c, ns, i1, deep - 1, near + 1, rfl, oA.g, (by omega), (by omega), (by omega), (by omega), (by omega), (by omega), fun dB vB H2 i2 oB => ?_⟩
  have hB := oB.hi
  have lB := oB.lo
  have dpB := oB.dp
  have knB := oB.kn
  refine ⟨(by show 3 ≤ sizeLine; decide), fun q1 e1 => ?_⟩
  exact q _ _ _ _ (made (oA.sx.trans oB.sx) oB.g e1 (rs rw_ (rs (oA.later oB.sx) (rs oB.r r0))) (wf_fun oA.wf oB.wf) (by simp only [depth, depthL]; omega) (by simp only [knots, knotsL]; omega) (by omega) (by omega))
theorem sc_law_pair : FnScope ["_law_script", "_law_tape", "_law_deep", "_law_near", "_law_pool_here", "_law_kind_here", "_law_first"] ["_law_script", "_law_tape", "_law_deep", "_law_near", "_law_pool_here"] (defScope s_law_pair) := ⟨rfl, rfl, rfl, by decide +kernel, rfl, by decide +kernel, by decide +kernel⟩
theorem c_law_pair {n : Nat} (D : Df K mg "_law_pair" s_law_pair ["_law_script", "_law_tape", "_law_deep", "_law_near", "_law_pool_here"]) (M : Mg mg t) (F_law_kind : Cal P w K mg CX0 "_law_kind" (3 * n + 202) ["_law_script", "_law_tape", "_law_deep", "_law_near", "_law_pool_here"] (spGen K true n)) (F_law_term : Cal P w K mg CX0 "_law_term" (3 * n + 202) ["_law_script", "_law_tape", "_law_deep", "_law_near", "_law_pool_here"] (spGen K false n)) : Cal P w K mg CX0 "_law_pair" (3 * n + 203) ["_law_script", "_law_tape", "_law_deep", "_law_near", "_law_pool_here"] (spHel K n (2 * n + 3) (1 + 9 * p5 n) (3 * cst n)) := by
  refine D.ok sc_law_pair (fun vs H Q E h => ?_) (fun base f cdv A outer s H vs Q E hr h => ?_)
  · obtain ⟨a, p, c, ns, i, deep, near, rfl, _⟩ := h
    rfl
  obtain ⟨a, p, c, ns, i, deep, near, rfl, g, hi, d0, d1, hn, n0, n1, q⟩ := h
  have i0 := g.T.i0
  have c10 := cst_ge n
  have p1 := p5_ge n
  refine ⟨_, (pss_cons (ps_set (i := 5) sc_law_pair.nd rfl (by first | exact Or.inl rfl | exact Or.inr rfl) (pe_fn F_law_kind (hr.mono (by omega)) rfl pass0 (pa_cons (pv 0) (pa_cons (pv 1) (pa_cons (pe_op op_sub (pv 2) pe_int) (pa_cons (pv 3) (pa_cons (pv 4) pa_nil)))))))
      (pss_cons (ps_set (i := 6) sc_law_pair.nd rfl (by first | exact Or.inl rfl | exact Or.inr rfl) (pe_fn F_law_term (hr.mono (by omega)) rfl pass0 (pa_cons (pv 0) (pa_cons (pv 1) (pa_cons (pe_op op_sub (pv 2) pe_int) (pa_cons (pv 3) (pa_cons (pv 4) pa_nil)))))))
      (pss_one (ps_ret (pe_tup (pa_cons pe_str (pa_cons (pv 5) (pa_cons (pv 6) (pa_cons (pe_fn F_law_term (hr.mono (by omega)) rfl pass0 (pa_cons (pv 0) (pa_cons (pv 1) (pa_cons (pe_op op_sub (pv 2) pe_int) (pa_cons (pv 3) (pa_cons (pv 4) pa_nil)))))) pa_nil))))))))), ?_⟩
  refine ⟨_, rfl, _, rfl, _, rfl, _, _, rfl, rfl, _, rfl, _, rfl, a, p, c, ns, i, deep - 2, near, rfl, g, (by omega), (by omega), (by omega), (by omega), (by omega), (by omega), fun dA vA H1 i1 oA => ?_⟩
  have hA := oA.hi
  have lA := oA.lo
  have dpA := oA.dp
  have knA := oA.kn
  refine ⟨_, rfl, _, rfl, _, rfl, _, _, rfl, rfl, _, rfl, _, rfl, a, p, c, ns, i1, deep - 1, near, rfl, oA.g, (by omega), (by omega), (by omega), (by omega), (by omega), (by omega), fun dB vB H2 i2 oB => ?_⟩
  have hB := oB.hi
  have lB := oB.lo
  have dpB := oB.dp
  have knB := oB.kn
  refine ⟨_, rfl, _, rfl, _, rfl, _, rfl, _, rfl, _, _, rfl, rfl, _, rfl, _, rfl, a, p, c, ns, i2, deep - 1, near, rfl, oB.g, (by omega), (by omega), (by omega), (by omega), (by omega), (by omega), fun dC vC H3 i3 oC => ?_⟩
  have hC := oC.hi
  have lC := oC.lo
  have dpC := oC.dp
  have knC := oC.kn
  refine ⟨(by show 4 ≤ sizeLine; decide), fun q1 e1 => ?_⟩
  exact q _ _ _ _ (made (oA.sx.trans (oB.sx.trans oC.sx)) oC.g e1 (rs rw_ (rs (oA.later (oB.sx.trans oC.sx)) (rs (oB.later oC.sx) (rs oC.r r0)))) (wf_pair oA.wf oB.wf oC.wf) (by simp only [depth, depthL]; omega) (by simp only [knots, knotsL]; omega) (by omega) (by omega))
theorem sc_law_like : FnScope ["_law_script", "_law_tape", "_law_deep", "_law_near", "_law_pool_here", "_law_kind_here"] ["_law_script", "_law_tape", "_law_deep", "_law_near", "_law_pool_here"] (defScope s_law_like) := ⟨rfl, rfl, rfl, by decide +kernel, rfl, by decide +kernel, by decide +kernel⟩
theorem c_law_like {n : Nat} (D : Df K mg "_law_like" s_law_like ["_law_script", "_law_tape", "_law_deep", "_law_near", "_law_pool_here"]) (M : Mg mg t) (F_law_kind : Cal P w K mg CX0 "_law_kind" (3 * n + 202) ["_law_script", "_law_tape", "_law_deep", "_law_near", "_law_pool_here"] (spGen K true n)) (F_law_term : Cal P w K mg CX0 "_law_term" (3 * n + 202) ["_law_script", "_law_tape", "_law_deep", "_law_near", "_law_pool_here"] (spGen K false n)) : Cal P w K mg CX0 "_law_like" (3 * n + 203) ["_law_script", "_law_tape", "_law_deep", "_law_near", "_law_pool_here"] (spHel K n (2 * n + 3) (1 + 6 * p5 n) (2 * cst n)) := by
  refine D.ok sc_law_like (fun vs H Q E h => ?_) (fun base f cdv A outer s H vs Q E hr h => ?_)
  · obtain ⟨a, p, c, ns, i, deep, near, rfl, _⟩ := h
    rfl
  obtain ⟨a, p, c, ns, i, deep, near, rfl, g, hi, d0, d1, hn, n0, n1, q⟩ := h
  have i0 := g.T.i0
  have c10 := cst_ge n
  have p1 := p5_ge n
  refine ⟨_, (pss_cons (ps_set (i := 5) sc_law_like.nd rfl (by first | exact Or.inl rfl | exact Or.inr rfl) (pe_fn F_law_kind (hr.mono (by omega)) rfl pass0 (pa_cons (pv 0) (pa_cons (pv 1) (pa_cons (pe_op op_sub (pv 2) pe_int) (pa_cons (pv 3) (pa_cons (pv 4) pa_nil)))))))
      (pss_one (ps_ret (pe_tup (pa_cons pe_str (pa_cons (pv 5) (pa_cons (pe_fn F_law_term (hr.mono (by omega)) rfl pass0 (pa_cons (pv 0) (pa_cons (pv 1) (pa_cons (pe_op op_sub (pv 2) pe_int) (pa_cons (pv 3) (pa_cons (pv 4) pa_nil)))))) pa_nil))))))), ?_⟩
  refine ⟨_, rfl, _, rfl, _, rfl, _, _, rfl, rfl, _, rfl, _, rfl, a, p, c, ns, i, deep - 2, near, rfl, g, (by omega), (by omega), (by omega), (by omega), (by omega), (by omega), fun dA vA H1 i1 oA => ?_⟩
  have hA := oA.hi
  have lA := oA.lo
  have dpA := oA.dp
  have knA := oA.kn
  refine ⟨_, rfl, _, rfl, _, rfl, _, rfl, _, _, rfl, rfl, _, rfl, _, rfl, a, p, c, ns, i1, deep - 1, near, rfl, oA.g, (by omega), (by omega), (by omega), (by omega), (by omega), (by omega), fun dB vB H2 i2 oB => ?_⟩
  have hB := oB.hi
  have lB := oB.lo
  have dpB := oB.dp
  have knB := oB.kn
  refine ⟨(by show 3 ≤ sizeLine; decide), fun q1 e1 => ?_⟩
  exact q _ _ _ _ (made (oA.sx.trans oB.sx) oB.g e1 (rs rw_ (rs (oA.later oB.sx) (rs oB.r r0))) (wf_like oA.wf oB.wf) (by simp only [depth, depthL]; omega) (by simp only [knots, knotsL]; omega) (by omega) (by omega))
theorem sc_law_number : FnScope ["_law_script", "_law_tape", "_law_deep", "_law_near", "_law_pool_here"] ["_law_script", "_law_tape", "_law_deep", "_law_near", "_law_pool_here"] (defScope s_law_number) := ⟨rfl, rfl, rfl, by decide +kernel, rfl, by decide +kernel, by decide +kernel⟩
theorem c_law_number {n : Nat} (D : Df K mg "_law_number" s_law_number ["_law_script", "_law_tape", "_law_deep", "_law_near", "_law_pool_here"]) (M : Mg mg t) (F_law_draw : Cal P w K mg CX0 "_law_draw" (1) ["_law_script", "_law_tape", "_law_many"] (spDraw K)) (F_law_term : Cal P w K mg CX0 "_law_term" (3 * n + 202) ["_law_script", "_law_tape", "_law_deep", "_law_near", "_law_pool_here"] (spGen K false n)) : Cal P w K mg CX0 "_law_number" (3 * n + 203) ["_law_script", "_law_tape", "_law_deep", "_law_near", "_law_pool_here"] (spHel K n (2 * n + 3) (1 + 3 * p5 n) (1 + cst n)) := by
  refine D.ok sc_law_number (fun vs H Q E h => ?_) (fun base f cdv A outer s H vs Q E hr h => ?_)
  · obtain ⟨a, p, c, ns, i, deep, near, rfl, _⟩ := h
    rfl
  obtain ⟨a, p, c, ns, i, deep, near, rfl, g, hi, d0, d1, hn, n0, n1, q⟩ := h
  have i0 := g.T.i0
  have c10 := cst_ge n
  have p1 := p5_ge n
  refine ⟨_, (pss_cons (ps_if (pt_cmpR op_eq (pe_fn F_law_draw (hr.mono (by omega)) rfl pass0 (pa_cons (pv 0) (pa_cons (pv 1) (pa_cons pe_int pa_nil)))) pe_int (nomark _)) (pss_one (ps_ret (pe_tup (pa_cons pe_str pa_nil)))) pss_nil)
      (pss_one (ps_ret (pe_tup (pa_cons pe_str (pa_cons (pe_fn F_law_term (hr.mono (by omega)) rfl pass0 (pa_cons (pv 0) (pa_cons (pv 1) (pa_cons (pe_op op_sub (pv 2) pe_int) (pa_cons (pv 3) (pa_cons (pv 4) pa_nil)))))) pa_nil)))))), ?_⟩
  refine ⟨_, rfl, _, rfl, a, p, ns, i, 3, rfl, g.T, (by omega), (by decide), fun way H0 w0 w1 x0 h0 => ⟨rfl, _, rfl, ?_⟩⟩
  have g0 := g.next x0 h0 (by omega)
  refine ite2 (fun _ => ?_) (fun _ => ?_)
  · refine ⟨(by show 1 ≤ sizeLine; decide), fun q1 e1 => ?_⟩
    exact q _ _ _ _ (made x0 g0 e1 (rs rw_ r0) wf_zero (by simp only [depth, depthL]; omega) (by simp only [knots, knotsL]; omega) (by omega) (by omega))
  refine ⟨_, rfl, _, rfl, _, rfl, _, _, rfl, rfl, _, rfl, _, rfl, a, p, c, ns, i + 1, deep - 1, near, rfl, g0, (by omega), (by omega), (by omega), (by omega), (by omega), (by omega), fun dA vA H1 i1 oA => ?_⟩
  have hA := oA.hi
  have lA := oA.lo
  have dpA := oA.dp
  have knA := oA.kn
  refine ⟨(by show 2 ≤ sizeLine; decide), fun q1 e1 => ?_⟩
  exact q _ _ _ _ (made (x0.trans oA.sx) oA.g e1 (rs rw_ (rs oA.r r0)) (wf_next oA.wf) (by simp only [depth, depthL]; omega) (by simp only [knots, knotsL]; omega) (by omega) (by omega))
def spWay (K : PySem.W.Frag) (n dp kn : Nat) (co : Int) : Sp := fun vs H Q _ => ∃ (a p c : Addr) (ns : List Int) (i deep near way : Int), vs = [.ref a, .ref p, .int deep, .int near, .ref c, .int way] ∧ Sg K a p c ns H i ∧ i + 9 * cst n < 2 ^ 58 ∧ 1 ≤ deep ∧ deep < n ∧ n ≤ 9 ∧ 0 ≤ near ∧ near + n + 1 ≤ 99 ∧
  ∀ (d : D) (v : V) (H' : Hp) (i' : Int), Ou K a p c ns H i false dp kn co d v H' i' → Q v H'
theorem sc_law_parted : FnScope ["_law_script", "_law_tape", "_law_deep", "_law_near", "_law_pool_here", "_law_way", "_law_word", "_law_kind_here", "_law_first", "_law_second"] ["_law_script", "_law_tape", "_law_deep", "_law_near", "_law_pool_here", "_law_way"] (defScope s_law_parted) := ⟨rfl, rfl, rfl, by decide +kernel, rfl, by decide +kernel, by decide +kernel⟩
theorem c_law_parted {n : Nat} (D : Df K mg "_law_parted" s_law_parted ["_law_script", "_law_tape", "_law_deep", "_law_near", "_law_pool_here", "_law_way"]) (M : Mg mg t) (F_law_draw : Cal P w K mg CX0 "_law_draw" (1) ["_law_script", "_law_tape", "_law_many"] (spDraw K)) (F_law_kind : Cal P w K mg CX0 "_law_kind" (3 * n + 202) ["_law_script", "_law_tape", "_law_deep", "_law_near", "_law_pool_here"] (spGen K true n)) (F_law_term : Cal P w K mg CX0 "_law_term" (3 * n + 202) ["_law_script", "_law_tape", "_law_deep", "_law_near", "_law_pool_here"] (spGen K false n)) (F_law_fun : Cal P w K mg CX0 "_law_fun" (3 * n + 203) ["_law_script", "_law_tape", "_law_deep", "_law_near", "_law_pool_here"] (spHel K n (2 * n + 3) (1 + 6 * p5 n) (2 * cst n))) (F_law_pair : Cal P w K mg CX0 "_law_pair" (3 * n + 203) ["_law_script", "_law_tape", "_law_deep", "_law_near", "_law_pool_here"] (spHel K n (2 * n + 3) (1 + 9 * p5 n) (3 * cst n))) (F_law_like : Cal P w K mg CX0 "_law_like" (3 * n + 203) ["_law_script", "_law_tape", "_law_deep", "_law_near", "_law_pool_here"] (spHel K n (2 * n + 3) (1 + 6 * p5 n) (2 * cst n))) (F_law_number : Cal P w K mg CX0 "_law_number" (3 * n + 203) ["_law_script", "_law_tape", "_law_deep", "_law_near", "_law_pool_here"] (spHel K n (2 * n + 3) (1 + 3 * p5 n) (1 + cst n))) : Cal P w K mg CX0 "_law_parted" (3 * n + 204) ["_law_script", "_law_tape", "_law_deep", "_law_near", "_law_pool_here", "_law_way"] (spWay K n (2 * n + 4) (2 + 12 * p5 n) (2 + 5 * cst n)) := by
  refine D.ok sc_law_parted (fun vs H Q E h => ?_) (fun base f cdv A outer s H vs Q E hr h => ?_)
  · obtain ⟨a, p, c, ns, i, deep, near, way, rfl, _⟩ := h
    rfl
  obtain ⟨a, p, c, ns, i, deep, near, way, rfl, g, hi, d0, d1, hn, n0, n1, q⟩ := h
  have i0 := g.T.i0
  have c10 := cst_ge n
  have p1 := p5_ge n
  refine ⟨_, (pss_cons (ps_if (pt_cmpR op_eq (pv 5) pe_int (nomark _)) (pss_one (ps_ret (pe_tup (pa_cons pe_str (pa_cons (pe_fn F_law_fun (hr.mono (by omega)) rfl pass0 (pa_cons (pv 0) (pa_cons (pv 1) (pa_cons (pv 2) (pa_cons (pv 3) (pa_cons (pv 4) pa_nil)))))) (pa_cons (pe_fn F_law_term (hr.mono (by omega)) rfl pass0 (pa_cons (pv 0) (pa_cons (pv 1) (pa_cons (pe_op op_sub (pv 2) pe_int) (pa_cons (pv 3) (pa_cons (pv 4) pa_nil)))))) pa_nil)))))) pss_nil)
      (pss_cons (ps_if (pt_cmpR op_eq (pv 5) pe_int (nomark _)) (pss_cons (ps_set (i := 6) sc_law_parted.nd rfl (by first | exact Or.inl rfl | exact Or.inr rfl) (pe_ix ix_list (pe_lst (pa_cons pe_str (pa_cons pe_str pa_nil))) (pe_fn F_law_draw (hr.mono (by omega)) rfl pass0 (pa_cons (pv 0) (pa_cons (pv 1) (pa_cons pe_int pa_nil)))) (fun _ _ => rfl)))
      (pss_one (ps_ret (pe_tup (pa_cons (pv 6) (pa_cons (pe_fn F_law_pair (hr.mono (by omega)) rfl pass0 (pa_cons (pv 0) (pa_cons (pv 1) (pa_cons (pv 2) (pa_cons (pv 3) (pa_cons (pv 4) pa_nil)))))) pa_nil)))))) pss_nil)
      (pss_cons (ps_set (i := 7) sc_law_parted.nd rfl (by first | exact Or.inl rfl | exact Or.inr rfl) (pe_fn F_law_kind (hr.mono (by omega)) rfl pass0 (pa_cons (pv 0) (pa_cons (pv 1) (pa_cons (pe_op op_sub (pv 2) pe_int) (pa_cons (pe_op op_add (pv 3) pe_int) (pa_cons (pv 4) pa_nil)))))))
      (pss_cons (ps_set (i := 8) sc_law_parted.nd rfl (by first | exact Or.inl rfl | exact Or.inr rfl) (pe_fn F_law_term (hr.mono (by omega)) rfl pass0 (pa_cons (pv 0) (pa_cons (pv 1) (pa_cons (pe_op op_sub (pv 2) pe_int) (pa_cons (pv 3) (pa_cons (pv 4) pa_nil)))))))
      (pss_cons (ps_if (pt_cmpR op_eq (pv 5) pe_int (nomark _)) (pss_one (ps_ret (pe_tup (pa_cons pe_str (pa_cons (pv 7) (pa_cons (pv 8) (pa_cons (pe_fn F_law_like (hr.mono (by omega)) rfl pass0 (pa_cons (pv 0) (pa_cons (pv 1) (pa_cons (pv 2) (pa_cons (pv 3) (pa_cons (pv 4) pa_nil)))))) pa_nil))))))) pss_nil)
      (pss_cons (ps_set (i := 9) sc_law_parted.nd rfl (by first | exact Or.inl rfl | exact Or.inr rfl) (pe_fn F_law_term (hr.mono (by omega)) rfl pass0 (pa_cons (pv 0) (pa_cons (pv 1) (pa_cons (pe_op op_sub (pv 2) pe_int) (pa_cons (pv 3) (pa_cons (pv 4) pa_nil)))))))
      (pss_one (ps_ret (pe_tup (pa_cons pe_str (pa_cons (pv 7) (pa_cons (pv 8) (pa_cons (pv 9) (pa_cons (pe_fn F_law_number (hr.mono (by omega)) rfl pass0 (pa_cons (pv 0) (pa_cons (pv 1) (pa_cons (pv 2) (pa_cons (pv 3) (pa_cons (pv 4) pa_nil)))))) pa_nil)))))))))))))), ?_⟩
  refine ⟨_, rfl, rfl, _, rfl, ite2 (fun _ => ?_) (fun _ => ?_)⟩
  · refine ⟨_, rfl, _, rfl, _, rfl, _, rfl, _, rfl, a, p, c, ns, i, deep, near, rfl, g, (by omega), d0, d1, (by omega), n0, n1, fun dA vA H1 i1 oA => ?_⟩
    have hA := oA.hi
    have lA := oA.lo
    have dpA := oA.dp
    have knA := oA.kn
    refine ⟨_, rfl, _, rfl, _, rfl, _, _, rfl, rfl, _, rfl, _, rfl, a, p, c, ns, i1, deep - 1, near, rfl, oA.g, (by omega), (by omega), (by omega), (by omega), (by omega), (by omega), fun dB vB H2 i2 oB => ?_⟩
    have hB := oB.hi
    have lB := oB.lo
    have dpB := oB.dp
    have knB := oB.kn
    refine ⟨(by show 3 ≤ sizeLine; decide), fun q1 e1 => ?_⟩
    exact q _ _ _ _ (made (oA.sx.trans oB.sx) oB.g e1 (rs rw_ (rs (oA.later oB.sx) (rs oB.r r0))) (wf_app oA.wf oB.wf) (by simp only [depth, depthL]; omega) (by simp only [knots, knotsL]; omega) (by omega) (by omega))
  refine ⟨_, rfl, rfl, _, rfl, ite2 (fun _ => ?_) (fun _ => ?_)⟩
  · refine ⟨(by show 2 ≤ sizeLine; decide), fun q0 e0 => ?_⟩
    have t0 := same_new e0 (.lst [V.str "first", .str "second"])
    refine ⟨_, rfl, _, rfl, a, p, ns, i, 2, rfl, (g.mono t0).T, (by omega), (by decide), fun wz H9 w0 w1 x9 h9 => ?_⟩
    have g9 := (g.mono t0).next x9 h9 (by omega)
    obtain ⟨y, hy, hyy⟩ : ∃ y : Str, atI [V.str "first", .str "second"] wz = some (.str y) ∧ (y = "first" ∨ y = "second") := by
      have : wz = 0 ∨ wz = 1 := by omega
      rcases this with rfl | rfl
      · exact ⟨_, rfl, .inl rfl⟩
      · exact ⟨_, rfl, .inr rfl⟩
    have hne : q0 ≠ p := fun z => by subst z; rw [g.T.tape] at e0; cases e0
    have hq0 := x9 _ _ hne (show (upd _ q0 (.lst [V.str "first", .str "second"])) q0 = some _ from upd_same)
    have hyl : y.length ≤ 1000 := by rcases hyy with rfl | rfl <;> decide
    have hwy : ∀ {d : KM.D}, wfG isStrD false d = true → wfG isStrD false (.tup [.str y, d]) = true := fun h => by
      rcases hyy with rfl | rfl
      · exact wf_first h
      · exact wf_second h
    refine ⟨q0, _, _, _, rfl, rfl, SqL.of hq0, hy, ?_⟩
    refine ⟨_, rfl, _, rfl, _, rfl, _, rfl, _, rfl, _, rfl, a, p, c, ns, i + 1, deep, near, rfl, g9, (by omega), d0, d1, (by omega), n0, n1, fun dA vA H1 i1 oA => ?_⟩
    have hA := oA.hi
    have lA := oA.lo
    have dpA := oA.dp
    have knA := oA.kn
    refine ⟨(by show 2 ≤ sizeLine; decide), fun q1 e1 => ?_⟩
    exact q _ _ _ _ (made ((t0.x.trans x9).trans oA.sx) oA.g e1 (rs (rw_ hyl) (rs oA.r r0)) (hwy oA.wf) (by simp only [depth, depthL]; omega) (by simp only [knots, knotsL]; omega) (by omega) (by omega))
  refine ⟨_, rfl, _, rfl, _, rfl, _, _, rfl, rfl, _, rfl, _, _, rfl, rfl, _, rfl, a, p, c, ns, i, deep - 2, near + 1, rfl, g, (by omega), (by omega), (by omega), (by omega), (by omega), (by omega), fun dA vA H1 i1 oA => ?_⟩
  have hA := oA.hi
  have lA := oA.lo
  have dpA := oA.dp
  have knA := oA.kn
  refine ⟨_, rfl, _, rfl, _, rfl, _, _, rfl, rfl, _, rfl, _, rfl, a, p, c, ns, i1, deep - 1, near, rfl, oA.g, (by omega), (by omega), (by omega), (by omega), (by omega), (by omega), fun dB vB H2 i2 oB => ?_⟩
  have hB := oB.hi
  have lB := oB.lo
  have dpB := oB.dp
  have knB := oB.kn
  refine ⟨_, rfl, rfl, _, rfl, ite2 (fun _ => ?_) (fun _ => ?_)⟩
  · refine ⟨_, rfl, _, rfl, _, rfl, _, rfl, _, rfl, _, rfl, _, rfl, a, p, c, ns, i2, deep, near, rfl, oB.g, (by omega), d0, d1, (by omega), n0, n1, fun dC vC H3 i3 oC => ?_⟩
    have hC := oC.hi
    have lC := oC.lo
    have dpC := oC.dp
    have knC := oC.kn
    refine ⟨(by show 4 ≤ sizeLine; decide), fun q1 e1 => ?_⟩
    exact q _ _ _ _ (made (oA.sx.trans (oB.sx.trans oC.sx)) oC.g e1 (rs rw_ (rs (oA.later (oB.sx.trans oC.sx)) (rs (oB.later oC.sx) (rs oC.r r0)))) (wf_carry oA.wf oB.wf oC.wf) (by simp only [depth, depthL]; omega) (by simp only [knots, knotsL]; omega) (by omega) (by omega))
  refine ⟨_, rfl, _, rfl, _, rfl, _, _, rfl, rfl, _, rfl, _, rfl, a, p, c, ns, i2, deep - 1, near, rfl, oB.g, (by omega), (by omega), (by omega), (by omega), (by omega), (by omega), fun dC vC H3 i3 oC => ?_⟩
  have hC := oC.hi
  have lC := oC.lo
  have dpC := oC.dp
  have knC := oC.kn
  refine ⟨_, rfl, _, rfl, _, rfl, _, rfl, _, rfl, _, rfl, _, rfl, _, rfl, a, p, c, ns, i3, deep, near, rfl, oC.g, (by omega), d0, d1, (by omega), n0, n1, fun dE vE H4 i4 oE => ?_⟩
  have hE := oE.hi
  have lE := oE.lo
  have dpE := oE.dp
  have knE := oE.kn
  refine ⟨(by show 5 ≤ sizeLine; decide), fun q1 e1 => ?_⟩
  exact q _ _ _ _ (made (oA.sx.trans (oB.sx.trans (oC.sx.trans oE.sx))) oE.g e1 (rs rw_ (rs (oA.later (oB.sx.trans (oC.sx.trans oE.sx))) (rs (oB.later (oC.sx.trans oE.sx)) (rs (oC.later oE.sx) (rs oE.r r0))))) (wf_rec oA.wf oB.wf oC.wf oE.wf) (by simp only [depth, depthL]; omega) (by simp only [knots, knotsL]; omega) (by omega) (by omega))
end K20
end
section
set_option maxHeartbeats 2000000
namespace K20
open PySem L2 L3 KM PyProof.Rows
seal L2.PE L2.PS L2.PSs L2.PT L2.PW L2.PA L2.PG L2.PGs L2.PI L2.PC L2.PO L2.PPs L2.PK L3.PIf
variable {P : Program} {w : World} {K : PySem.W.Frag} {mg : Str → Option Value} {base : Heap} {t : Adr}
theorem sc_law_still : FnScope ["_law_script", "_law_tape", "_law_deep", "_law_near", "_law_pool_here", "_law_way", "_law_one", "_law_two", "_law_three"] ["_law_script", "_law_tape", "_law_deep", "_law_near", "_law_pool_here", "_law_way"] (defScope s_law_still) := ⟨rfl, rfl, rfl, by decide +kernel, rfl, by decide +kernel, by decide +kernel⟩
theorem c_law_still {n : Nat} (D : Df K mg "_law_still" s_law_still ["_law_script", "_law_tape", "_law_deep", "_law_near", "_law_pool_here", "_law_way"]) (M : Mg mg t) (F_law_draw : Cal P w K mg CX0 "_law_draw" (1) ["_law_script", "_law_tape", "_law_many"] (spDraw K)) (F_law_kind : Cal P w K mg CX0 "_law_kind" (3 * n + 202) ["_law_script", "_law_tape", "_law_deep", "_law_near", "_law_pool_here"] (spGen K true n)) (F_law_term : Cal P w K mg CX0 "_law_term" (3 * n + 202) ["_law_script", "_law_tape", "_law_deep", "_law_near", "_law_pool_here"] (spGen K false n)) (F_law_fun : Cal P w K mg CX0 "_law_fun" (3 * n + 203) ["_law_script", "_law_tape", "_law_deep", "_law_near", "_law_pool_here"] (spHel K n (2 * n + 3) (1 + 6 * p5 n) (2 * cst n))) (F_law_pair : Cal P w K mg CX0 "_law_pair" (3 * n + 203) ["_law_script", "_law_tape", "_law_deep", "_law_near", "_law_pool_here"] (spHel K n (2 * n + 3) (1 + 9 * p5 n) (3 * cst n))) (F_law_like : Cal P w K mg CX0 "_law_like" (3 * n + 203) ["_law_script", "_law_tape", "_law_deep", "_law_near", "_law_pool_here"] (spHel K n (2 * n + 3) (1 + 6 * p5 n) (2 * cst n))) : Cal P w K mg CX0 "_law_still" (3 * n + 204) ["_law_script", "_law_tape", "_law_deep", "_law_near", "_law_pool_here", "_law_way"] (spWay K n (2 * n + 4) (1 + 12 * p5 n) (1 + 4 * cst n)) := by
  refine D.ok sc_law_still (fun vs H Q E h => ?_) (fun base f cdv A outer s H vs Q E hr h => ?_)
  · obtain ⟨a, p, c, ns, i, deep, near, way, rfl, _⟩ := h
    rfl
  obtain ⟨a, p, c, ns, i, deep, near, way, rfl, g, hi, d0, d1, hn, n0, n1, q⟩ := h
  have i0 := g.T.i0
  have c10 := cst_ge n
  have p1 := p5_ge n
  refine ⟨_, (pss_cons (ps_if (pt_cmpR op_lt (pv 5) pe_int (nomark _)) (pss_one (ps_ret (pe_tup (pa_cons pe_str (pa_cons (pe_fn F_law_term (hr.mono (by omega)) rfl pass0 (pa_cons (pv 0) (pa_cons (pv 1) (pa_cons (pe_op op_sub (pv 2) pe_int) (pa_cons (pv 3) (pa_cons (pv 4) pa_nil)))))) pa_nil))))) pss_nil)
      (pss_cons (ps_if (pt_cmpR op_eq (pv 5) pe_int (nomark _)) (pss_one (ps_ret (pe_fn F_law_fun (hr.mono (by omega)) rfl pass0 (pa_cons (pv 0) (pa_cons (pv 1) (pa_cons (pv 2) (pa_cons (pv 3) (pa_cons (pv 4) pa_nil)))))))) pss_nil)
      (pss_cons (ps_if (pt_cmpR op_eq (pv 5) pe_int (nomark _)) (pss_one (ps_ret (pe_fn F_law_pair (hr.mono (by omega)) rfl pass0 (pa_cons (pv 0) (pa_cons (pv 1) (pa_cons (pv 2) (pa_cons (pv 3) (pa_cons (pv 4) pa_nil)))))))) pss_nil)
      (pss_cons (ps_if (pt_cmpR op_eq (pv 5) pe_int (nomark _)) (pss_one (ps_ret (pe_fn F_law_like (hr.mono (by omega)) rfl pass0 (pa_cons (pv 0) (pa_cons (pv 1) (pa_cons (pv 2) (pa_cons (pv 3) (pa_cons (pv 4) pa_nil)))))))) pss_nil)
      (pss_cons (ps_set (i := 6) sc_law_still.nd rfl (by first | exact Or.inl rfl | exact Or.inr rfl) (pe_fn F_law_term (hr.mono (by omega)) rfl pass0 (pa_cons (pv 0) (pa_cons (pv 1) (pa_cons (pe_op op_sub (pv 2) pe_int) (pa_cons (pv 3) (pa_cons (pv 4) pa_nil)))))))
      (pss_cons (ps_if (pt_cmpR op_eq (pv 5) pe_int (nomark _)) (pss_one (ps_ret (pe_tup (pa_cons pe_str (pa_cons (pe_fn F_law_kind (hr.mono (by omega)) rfl pass0 (pa_cons (pv 0) (pa_cons (pv 1) (pa_cons (pe_op op_sub (pv 2) pe_int) (pa_cons (pv 3) (pa_cons (pv 4) pa_nil)))))) (pa_cons (pv 6) pa_nil)))))) pss_nil)
      (pss_cons (ps_if (pt_cmpR op_eq (pv 5) pe_int (nomark _)) (pss_one (ps_ret (pe_tup (pa_cons (pe_ix ix_list (pe_lst (pa_cons pe_str (pa_cons pe_str pa_nil))) (pe_fn F_law_draw (hr.mono (by omega)) rfl pass0 (pa_cons (pv 0) (pa_cons (pv 1) (pa_cons pe_int pa_nil)))) (fun _ _ => rfl)) (pa_cons (pv 6) pa_nil))))) pss_nil)
      (pss_cons (ps_set (i := 7) sc_law_still.nd rfl (by first | exact Or.inl rfl | exact Or.inr rfl) (pe_fn F_law_term (hr.mono (by omega)) rfl pass0 (pa_cons (pv 0) (pa_cons (pv 1) (pa_cons (pe_op op_sub (pv 2) pe_int) (pa_cons (pv 3) (pa_cons (pv 4) pa_nil)))))))
      (pss_cons (ps_if (pt_cmpR op_eq (pv 5) pe_int (nomark _)) (pss_one (ps_ret (pe_tup (pa_cons pe_str (pa_cons (pv 6) (pa_cons (pv 7) pa_nil)))))) pss_nil)
      (pss_cons (ps_if (pt_cmpR op_eq (pv 5) pe_int (nomark _)) (pss_one (ps_ret (pe_tup (pa_cons pe_str (pa_cons (pe_fn F_law_kind (hr.mono (by omega)) rfl pass0 (pa_cons (pv 0) (pa_cons (pv 1) (pa_cons (pe_op op_sub (pv 2) pe_int) (pa_cons (pe_op op_add (pv 3) pe_int) (pa_cons (pv 4) pa_nil)))))) (pa_cons (pv 6) (pa_cons (pv 7) pa_nil))))))) pss_nil)
      (pss_cons (ps_set (i := 8) sc_law_still.nd rfl (by first | exact Or.inl rfl | exact Or.inr rfl) (pe_fn F_law_term (hr.mono (by omega)) rfl pass0 (pa_cons (pv 0) (pa_cons (pv 1) (pa_cons (pe_op op_sub (pv 2) pe_int) (pa_cons (pv 3) (pa_cons (pv 4) pa_nil)))))))
      (pss_one (ps_ret (pe_tup (pa_cons pe_str (pa_cons (pe_fn F_law_kind (hr.mono (by omega)) rfl pass0 (pa_cons (pv 0) (pa_cons (pv 1) (pa_cons (pe_op op_sub (pv 2) pe_int) (pa_cons (pe_op op_add (pv 3) pe_int) (pa_cons (pv 4) pa_nil)))))) (pa_cons (pv 6) (pa_cons (pv 7) (pa_cons (pv 8) pa_nil))))))))))))))))))), ?_⟩
  refine ⟨_, rfl, _, _, rfl, rfl, _, rfl, ite2 (fun _ => ?_) (fun _ => ?_)⟩
  · refine ⟨_, rfl, _, rfl, _, rfl, _, _, rfl, rfl, _, rfl, _, rfl, a, p, c, ns, i, deep - 1, near, rfl, g, (by omega), (by omega), (by omega), (by omega), (by omega), (by omega), fun dA vA H1 i1 oA => ?_⟩
    have hA := oA.hi
    have lA := oA.lo
    have dpA := oA.dp
    have knA := oA.kn
    refine ⟨(by show 2 ≤ sizeLine; decide), fun q1 e1 => ?_⟩
    exact q _ _ _ _ (made (oA.sx) oA.g e1 (rs rw_ (rs oA.r r0)) (wf_next oA.wf) (by simp only [depth, depthL]; omega) (by simp only [knots, knotsL]; omega) (by omega) (by omega))
  refine ⟨_, rfl, rfl, _, rfl, ite2 (fun _ => ?_) (fun _ => ?_)⟩
  · refine ⟨_, rfl, _, rfl, _, rfl, _, rfl, _, rfl, a, p, c, ns, i, deep, near, rfl, g, (by omega), d0, d1, (by omega), n0, n1, fun dA vA H1 i1 oA => ?_⟩
    have hA := oA.hi
    have lA := oA.lo
    have dpA := oA.dp
    have knA := oA.kn
    exact q _ _ _ _ (oA.weak (by omega) (by omega) (by omega))
  refine ⟨_, rfl, rfl, _, rfl, ite2 (fun _ => ?_) (fun _ => ?_)⟩
  · refine ⟨_, rfl, _, rfl, _, rfl, _, rfl, _, rfl, a, p, c, ns, i, deep, near, rfl, g, (by omega), d0, d1, (by omega), n0, n1, fun dA vA H1 i1 oA => ?_⟩
    have hA := oA.hi
    have lA := oA.lo
    have dpA := oA.dp
    have knA := oA.kn
    exact q _ _ _ _ (oA.weak (by omega) (by omega) (by omega))
  refine ⟨_, rfl, rfl, _, rfl, ite2 (fun _ => ?_) (fun _ => ?_)⟩
  · refine ⟨_, rfl, _, rfl, _, rfl, _, rfl, _, rfl, a, p, c, ns, i, deep, near, rfl, g, (by omega), d0, d1, (by omega), n0, n1, fun dA vA H1 i1 oA => ?_⟩
    have hA := oA.hi
    have lA := oA.lo
    have dpA := oA.dp
    have knA := oA.kn
    exact q _ _ _ _ (oA.weak (by omega) (by omega) (by omega))
  refine ⟨_, rfl, _, rfl, _, rfl, _, _, rfl, rfl, _, rfl, _, rfl, a, p, c, ns, i, deep - 1, near, rfl, g, (by omega), (by omega), (by omega), (by omega), (by omega), (by omega), fun dA vA H1 i1 oA => ?_⟩
  have hA := oA.hi
  have lA := oA.lo
  have dpA := oA.dp
  have knA := oA.kn
  refine ⟨_, rfl, rfl, _, rfl, ite2 (fun _ => ?_) (fun _ => ?_)⟩
  · refine ⟨_, rfl, _, rfl, _, rfl, _, _, rfl, rfl, _, rfl, _, rfl, a, p, c, ns, i1, deep - 2, near, rfl, oA.g, (by omega), (by omega), (by omega), (by omega), (by omega), (by omega), fun dB vB H2 i2 oB => ?_⟩
    have hB := oB.hi
    have lB := oB.lo
    have dpB := oB.dp
    have knB := oB.kn
    refine ⟨_, rfl, (by show 3 ≤ sizeLine; decide), fun q1 e1 => ?_⟩
    exact q _ _ _ _ (made (oA.sx.trans oB.sx) oB.g e1 (rs rw_ (rs oB.r (rs (oA.later oB.sx) r0))) (wf_never oB.wf oA.wf) (by simp only [depth, depthL]; omega) (by simp only [knots, knotsL]; omega) (by omega) (by omega))
  refine ⟨_, rfl, rfl, _, rfl, ite2 (fun _ => ?_) (fun _ => ?_)⟩
  · refine ⟨(by show 2 ≤ sizeLine; decide), fun q0 e0 => ?_⟩
    have t0 := same_new e0 (.lst [V.str "first", .str "second"])
    refine ⟨_, rfl, _, rfl, a, p, ns, i1, 2, rfl, (oA.g.mono t0).T, (by omega), (by decide), fun wz H9 w0 w1 x9 h9 => ?_⟩
    have g9 := (oA.g.mono t0).next x9 h9 (by omega)
    obtain ⟨y, hy, hyy⟩ : ∃ y : Str, atI [V.str "first", .str "second"] wz = some (.str y) ∧ (y = "first" ∨ y = "second") := by
      have : wz = 0 ∨ wz = 1 := by omega
      rcases this with rfl | rfl
      · exact ⟨_, rfl, .inl rfl⟩
      · exact ⟨_, rfl, .inr rfl⟩
    have hne : q0 ≠ p := fun z => by subst z; rw [oA.g.T.tape] at e0; cases e0
    have hq0 := x9 _ _ hne (show (upd _ q0 (.lst [V.str "first", .str "second"])) q0 = some _ from upd_same)
    have hyl : y.length ≤ 1000 := by rcases hyy with rfl | rfl <;> decide
    have hwy : ∀ {d : KM.D}, wfG isStrD false d = true → wfG isStrD false (.tup [.str y, d]) = true := fun h => by
      rcases hyy with rfl | rfl
      · exact wf_first h
      · exact wf_second h
    refine ⟨q0, _, _, _, rfl, rfl, SqL.of hq0, hy, _, rfl, ?_⟩
    refine ⟨(by show 2 ≤ sizeLine; decide), fun q1 e1 => ?_⟩
    exact q _ _ _ _ (made (oA.sx.trans (t0.x.trans x9)) g9 e1 (rs (rw_ hyl) (rs (oA.later (t0.x.trans x9)) r0)) (hwy oA.wf) (by simp only [depth, depthL]; omega) (by simp only [knots, knotsL]; omega) (by omega) (by omega))
  refine ⟨_, rfl, _, rfl, _, rfl, _, _, rfl, rfl, _, rfl, _, rfl, a, p, c, ns, i1, deep - 1, near, rfl, oA.g, (by omega), (by omega), (by omega), (by omega), (by omega), (by omega), fun dB vB H2 i2 oB => ?_⟩
  have hB := oB.hi
  have lB := oB.lo
  have dpB := oB.dp
  have knB := oB.kn
  refine ⟨_, rfl, rfl, _, rfl, ite2 (fun _ => ?_) (fun _ => ?_)⟩
  · refine ⟨_, rfl, _, rfl, (by show 3 ≤ sizeLine; decide), fun q1 e1 => ?_⟩
    exact q _ _ _ _ (made (oA.sx.trans oB.sx) oB.g e1 (rs rw_ (rs (oA.later oB.sx) (rs oB.r r0))) (wf_app oA.wf oB.wf) (by simp only [depth, depthL]; omega) (by simp only [knots, knotsL]; omega) (by omega) (by omega))
  refine ⟨_, rfl, rfl, _, rfl, ite2 (fun _ => ?_) (fun _ => ?_)⟩
  · refine ⟨_, rfl, _, rfl, _, rfl, _, _, rfl, rfl, _, rfl, _, _, rfl, rfl, _, rfl, a, p, c, ns, i2, deep - 2, near + 1, rfl, oB.g, (by omega), (by omega), (by omega), (by omega), (by omega), (by omega), fun dC vC H3 i3 oC => ?_⟩
    have hC := oC.hi
    have lC := oC.lo
    have dpC := oC.dp
    have knC := oC.kn
    refine ⟨_, rfl, _, rfl, (by show 4 ≤ sizeLine; decide), fun q1 e1 => ?_⟩
    exact q _ _ _ _ (made (oA.sx.trans (oB.sx.trans oC.sx)) oC.g e1 (rs rw_ (rs oC.r (rs (oA.later (oB.sx.trans oC.sx)) (rs (oB.later oC.sx) r0)))) (wf_carry oC.wf oA.wf oB.wf) (by simp only [depth, depthL]; omega) (by simp only [knots, knotsL]; omega) (by omega) (by omega))
  refine ⟨_, rfl, _, rfl, _, rfl, _, _, rfl, rfl, _, rfl, _, rfl, a, p, c, ns, i2, deep - 1, near, rfl, oB.g, (by omega), (by omega), (by omega), (by omega), (by omega), (by omega), fun dC vC H3 i3 oC => ?_⟩
  have hC := oC.hi
  have lC := oC.lo
  have dpC := oC.dp
  have knC := oC.kn
  refine ⟨_, rfl, _, rfl, _, rfl, _, _, rfl, rfl, _, rfl, _, _, rfl, rfl, _, rfl, a, p, c, ns, i3, deep - 2, near + 1, rfl, oC.g, (by omega), (by omega), (by omega), (by omega), (by omega), (by omega), fun dE vE H4 i4 oE => ?_⟩
  have hE := oE.hi
  have lE := oE.lo
  have dpE := oE.dp
  have knE := oE.kn
  refine ⟨_, rfl, _, rfl, _, rfl, (by show 5 ≤ sizeLine; decide), fun q1 e1 => ?_⟩
  exact q _ _ _ _ (made (oA.sx.trans (oB.sx.trans (oC.sx.trans oE.sx))) oE.g e1 (rs rw_ (rs oE.r (rs (oA.later (oB.sx.trans (oC.sx.trans oE.sx))) (rs (oB.later (oC.sx.trans oE.sx)) (rs (oC.later oE.sx) r0))))) (wf_rec oE.wf oA.wf oB.wf oC.wf) (by simp only [depth, depthL]; omega) (by simp only [knots, knotsL]; omega) (by omega) (by omega))
theorem sc_law_term : FnScope ["_law_script", "_law_tape", "_law_deep", "_law_near", "_law_pool_here", "_law_way"] ["_law_script", "_law_tape", "_law_deep", "_law_near", "_law_pool_here"] (defScope s_law_term) := ⟨rfl, rfl, rfl, by decide +kernel, rfl, by decide +kernel, by decide +kernel⟩
theorem st_law_term {n : Nat} (D : Df K mg "_law_term" s_law_term ["_law_script", "_law_tape", "_law_deep", "_law_near", "_law_pool_here"]) (M : Mg mg t) (F_law_draw : Cal P w K mg CX0 "_law_draw" (1) ["_law_script", "_law_tape", "_law_many"] (spDraw K)) (F_law_leaf : Cal P w K mg CX0 "_law_leaf" (201) ["_law_script", "_law_tape", "_law_near", "_law_pool_here"] (spLeaf K)) (F_law_parted : Cal P w K mg CX0 "_law_parted" (3 * n + 204) ["_law_script", "_law_tape", "_law_deep", "_law_near", "_law_pool_here", "_law_way"] (spWay K n (2 * n + 4) (2 + 12 * p5 n) (2 + 5 * cst n))) (F_law_still : Cal P w K mg CX0 "_law_still" (3 * n + 204) ["_law_script", "_law_tape", "_law_deep", "_law_near", "_law_pool_here", "_law_way"] (spWay K n (2 * n + 4) (1 + 12 * p5 n) (1 + 4 * cst n))) : Cal P w K mg CX0 "_law_term" (3 * n + 205) ["_law_script", "_law_tape", "_law_deep", "_law_near", "_law_pool_here"] (spGen K false (n + 1)) := by
  refine D.ok sc_law_term (fun vs H Q E h => ?_) (fun base f cdv A outer s H vs Q E hr h => ?_)
  · obtain ⟨a, p, c, ns, i, deep, near, rfl, _⟩ := h
    rfl
  obtain ⟨a, p, c, ns, i, deep, near, rfl, g, hi, d0, d1, hn, n0, n1, q⟩ := h
  have i0 := g.T.i0
  have e := cst_succ n
  have c10 := cst_ge n
  have e5 := p5_succ n
  have p1 := p5_ge n
  rw [e] at hi q
  rw [e5] at q
  refine ⟨_, (pss_cons (ps_set (i := 5) sc_law_term.nd rfl (by first | exact Or.inl rfl | exact Or.inr rfl) (pe_fn F_law_draw (hr.mono (by omega)) rfl pass0 (pa_cons (pv 0) (pa_cons (pv 1) (pa_cons pe_int pa_nil)))))
      (pss_cons (ps_if (L2.PW.pt (pw_or (pt_cmpR op_lt (pv 2) pe_int (nomark _)) (pw_or1 (pt_cmpR op_lt (pv 5) pe_int (nomark _))))) (pss_one (ps_ret (pe_fn F_law_leaf (hr.mono (by omega)) rfl pass0 (pa_cons (pv 0) (pa_cons (pv 1) (pa_cons (pv 3) (pa_cons (pv 4) pa_nil))))))) pss_nil)
      (pss_cons (ps_if (pt_cmpR op_lt (pv 5) pe_int (nomark _)) (pss_one (ps_ret (pe_fn F_law_parted (hr.mono (by omega)) rfl pass0 (pa_cons (pv 0) (pa_cons (pv 1) (pa_cons (pv 2) (pa_cons (pv 3) (pa_cons (pv 4) (pa_cons (pe_op op_sub (pv 5) pe_int) pa_nil))))))))) pss_nil)
      (pss_one (ps_ret (pe_fn F_law_still (hr.mono (by omega)) rfl pass0 (pa_cons (pv 0) (pa_cons (pv 1) (pa_cons (pv 2) (pa_cons (pv 3) (pa_cons (pv 4) (pa_cons (pe_op op_sub (pv 5) pe_int) pa_nil)))))))))))), ?_⟩
  refine ⟨_, rfl, _, rfl, a, p, ns, i, 17, rfl, g.T, (by omega), (by decide), fun way H1 w0 w1 x1 h1 => ?_⟩
  have g1 := g.next x1 h1 (by omega)
  refine ⟨_, rfl, _, _, rfl, rfl, _, rfl, ?_⟩
  refine ite2 (fun cd => ?_) (fun cd => ?_)
  · exact iteT ⟨_, rfl, _, rfl, _, rfl, _, rfl, a, p, c, ns, i + 1, near, rfl, g1, (by omega), n0, (by omega), fun d v H' i' o => q _ _ _ _ ((o.after (co1 := 1) x1 (by omega) (by omega)).weak (by omega) (by omega) (by omega))⟩
  refine ⟨_, rfl, _, _, rfl, rfl, _, rfl, ?_⟩
  refine ite2 (fun cw => ?_) (fun cw => ?_)
  · exact ⟨_, rfl, _, rfl, _, rfl, _, rfl, a, p, c, ns, i + 1, near, rfl, g1, (by omega), n0, (by omega), fun d v H' i' o => q _ _ _ _ ((o.after (co1 := 1) x1 (by omega) (by omega)).weak (by omega) (by omega) (by omega))⟩
  have cd : ¬ deep < 1 := of_decide_eq_false (Bool.eq_false_iff.mpr cd)
  refine ⟨_, rfl, _, _, rfl, rfl, _, rfl, ?_⟩
  refine ite2 (fun cw2 => ?_) (fun cw2 => ?_)
  · exact ⟨_, rfl, _, rfl, _, rfl, _, rfl, _, rfl, _, rfl, _, _, rfl, rfl, a, p, c, ns, i + 1, deep, near, way - 3, rfl, g1, (by omega), (by omega), (by omega), (by omega), n0, (by omega), fun d v H' i' o => q _ _ _ _ ((o.after (co1 := 1) x1 (by omega) (by omega)).weak (by omega) (by omega) (by omega))⟩
  · exact ⟨_, rfl, _, rfl, _, rfl, _, rfl, _, rfl, _, rfl, _, _, rfl, rfl, a, p, c, ns, i + 1, deep, near, way - 7, rfl, g1, (by omega), (by omega), (by omega), (by omega), n0, (by omega), fun d v H' i' o => q _ _ _ _ ((o.after (co1 := 1) x1 (by omega) (by omega)).weak (by omega) (by omega) (by omega))⟩
theorem c_gen (Dk : Df K mg "_law_kind" s_law_kind ["_law_script", "_law_tape", "_law_deep", "_law_near", "_law_pool_here"]) (Dt : Df K mg "_law_term" s_law_term ["_law_script", "_law_tape", "_law_deep", "_law_near", "_law_pool_here"]) (Df_ : Df K mg "_law_fun" s_law_fun ["_law_script", "_law_tape", "_law_deep", "_law_near", "_law_pool_here"]) (Dp : Df K mg "_law_pair" s_law_pair ["_law_script", "_law_tape", "_law_deep", "_law_near", "_law_pool_here"]) (Dl : Df K mg "_law_like" s_law_like ["_law_script", "_law_tape", "_law_deep", "_law_near", "_law_pool_here"]) (Dn : Df K mg "_law_number" s_law_number ["_law_script", "_law_tape", "_law_deep", "_law_near", "_law_pool_here"]) (Da : Df K mg "_law_parted" s_law_parted ["_law_script", "_law_tape", "_law_deep", "_law_near", "_law_pool_here", "_law_way"]) (Ds : Df K mg "_law_still" s_law_still ["_law_script", "_law_tape", "_law_deep", "_law_near", "_law_pool_here", "_law_way"]) (M : Mg mg t) (F_law_draw : Cal P w K mg CX0 "_law_draw" (1) ["_law_script", "_law_tape", "_law_many"] (spDraw K)) (F_law_leaf : Cal P w K mg CX0 "_law_leaf" (201) ["_law_script", "_law_tape", "_law_near", "_law_pool_here"] (spLeaf K)) :
    ∀ n : Nat, (Cal P w K mg CX0 "_law_kind" (3 * n + 202) ["_law_script", "_law_tape", "_law_deep", "_law_near", "_law_pool_here"] (spGen K true n)) ∧ (Cal P w K mg CX0 "_law_term" (3 * n + 202) ["_law_script", "_law_tape", "_law_deep", "_law_near", "_law_pool_here"] (spGen K false n))
  | 0 => ⟨Cal.never Dk fun vs H Q E ⟨a, p, c, ns, i, deep, near, _, _, _, h1, h2, _⟩ => by omega, Cal.never Dt fun vs H Q E ⟨a, p, c, ns, i, deep, near, _, _, _, h1, h2, _⟩ => by omega⟩
  | n + 1 => by
    obtain ⟨hk, ht⟩ := c_gen Dk Dt Df_ Dp Dl Dn Da Ds M F_law_draw F_law_leaf n
    have f1 := c_law_fun Df_ M hk ht
    have f2 := c_law_pair Dp M hk ht
    have f3 := c_law_like Dl M hk ht
    have f4 := c_law_number Dn M F_law_draw ht
    have f5 := c_law_parted Da M F_law_draw hk ht f1 f2 f3 f4
    have f6 := c_law_still Ds M F_law_draw hk ht f1 f2 f3
    exact ⟨(st_law_kind Dk M F_law_draw hk ht).mono (by omega), (st_law_term Dt M F_law_draw F_law_leaf f5 f6).mono (by omega)⟩
end K20
end
section
set_option maxHeartbeats 1000000
namespace K20
open PySem L2 L3 KM
seal L2.PE L2.PS L2.PSs L2.PT L2.PW L2.PA L2.PG L2.PGs L2.PI L2.PC L2.PO L2.PPs L2.PK L3.PIf
variable {P : Program} {w : World} {K : PySem.W.Frag} {mg : Str → Option Value} {base : Heap} {t : Adr}
theorem sizeLine_eq : sizeLine = 16777216 := by decide
def vastD (d : D) : Bool := !(decide (knots d ≤ 600) && decide (depth d ≤ 40))
end K20
end
section
set_option maxHeartbeats 1000000
namespace K20
open PySem L2 L3 KM PyProof.Rows
seal L2.PE L2.PS L2.PSs L2.PT L2.PW L2.PA L2.PG L2.PGs L2.PI L2.PC L2.PO L2.PPs L2.PK L3.PIf
variable {P : Program} {w : World} {K : PySem.W.Frag} {mg : Str → Option Value} {base : Heap} {t : Adr}
theorem leaf_flat {k : Bool} {x : Str} {ps : List D} (h : wfG isStrD k (.tup (.str x :: ps)) = true) (hx : leafW x = true) : ∀ (i : Nat) (p : D), ps[i]? = some p → isTup p = false ∧ (numD p = true ∨ isStrD p = true) := by
  obtain ⟨s, h1, h2, h3, h4, h5, h6, h7, _⟩ := wf_shape h
  have hc : ∀ (cs : List Nat) (qs : List D) (i : Nat), wfL isStrD cs qs = true → (∀ c ∈ cs, ktB c = !leafW x) → ∀ p, qs[i]? = some p → isTup p = false ∧ (numD p = true ∨ isStrD p = true) := fun cs => by
    induction cs with
    | nil =>
      intro qs i hq _ p e
      cases qs with
      | nil => simp at e
      | cons _ _ => simp [wfL] at hq
    | cons c cs ih =>
      intro qs i hq hk p e
      cases qs with
      | nil => simp [wfL] at hq
      | cons q qs =>
        rw [wfL_cons, Bool.and_eq_true] at hq
        cases i with
        | zero =>
          simp at e
          subst e
          have hkc := hk c List.mem_cons_self
          rw [hx] at hkc
          have hq1 := hq.1
          unfold dueB at hq1
          rw [if_neg (fun z => by rw [z, kt1] at hkc; cases hkc), if_neg (fun z => by rw [z, kt2] at hkc; cases hkc)] at hq1
          split at hq1
          · exact ⟨by cases q <;> simp [numD] at hq1 <;> rfl, .inl hq1⟩
          · exact ⟨by cases q <;> simp [isStrD] at hq1 <;> rfl, .inr hq1⟩
        | succ i => exact ih qs i hq.2 (fun c hc => hk c (List.mem_cons_of_mem _ hc)) p (by simpa using e)
  exact fun i p e => hc _ ps i h3 h6 p e
theorem flat_zero : ∀ (ps : List D), (∀ (i : Nat) (p : D), ps[i]? = some p → isTup p = false) → knotsL ps = 0 ∧ depthL ps = 0
  | [], _ => ⟨rfl, rfl⟩
  | p :: ps, h => by
    obtain ⟨h1, h2⟩ := flat_zero ps fun i q e => h (i + 1) q (by simpa using e)
    have h0 := h 0 p rfl
    have e1 : knots p = 0 := by cases p <;> first | rfl | simp [isTup] at h0
    have e2 : depth p = 0 := by cases p <;> first | rfl | simp [isTup] at h0
    simp [knotsL, depthL, h1, h2, e1, e2]
theorem knotsL_sum : ∀ ps : List D, knotsL ps = (ps.map knots).sum
  | [] => rfl
  | p :: ps => by simp [knotsL, knotsL_sum ps]
theorem depthL_max : ∀ ps : List D, depthL ps = maxN (ps.map depth)
  | [] => rfl
  | p :: ps => by rw [depthL, depthL_max ps]; rfl
theorem knots_kids {k : Bool} {x : Str} {ps : List D} (h : wfG isStrD k (.tup (.str x :: ps)) = true) : knots (.tup (.str x :: ps)) = 1 + ((kidsD x ps).map knots).sum ∧ depth (.tup (.str x :: ps)) = 1 + maxN ((kidsD x ps).map depth) := by
  rw [← knotsL_sum, ← depthL_max]
  have e1 : knots (.tup (.str x :: ps)) = 1 + knotsL ps := by simp [knots, knotsL]
  have e2 : depth (.tup (.str x :: ps)) = 1 + depthL ps := by simp [depth, depthL]
  rw [e1, e2]
  unfold kidsD
  by_cases hx : leafW x = true
  · obtain ⟨z1, z2⟩ := flat_zero ps fun i p e => (leaf_flat h hx i p e).1
    rw [if_pos hx, z1, z2]
    exact ⟨rfl, rfl⟩
  · rw [if_neg hx]
    exact ⟨rfl, rfl⟩
structure Rz (d : D) (n : Nat) : Prop where
  wf : Wf d
  dp : depth d < n
  kn : knots d ≤ 8000000
theorem Rz.kid {n : Nat} {x : Str} {ps : List D} {i : Nat} {p : D} (h : Rz (.tup (.str x :: ps)) (n + 1)) (e : (kidsD x ps)[i]? = some p) : Rz p n := by
  obtain ⟨k, wf⟩ := h.wf
  obtain ⟨w1, w2⟩ := wf_kid wf e
  have hd := h.dp
  have hk := h.kn
  refine ⟨w1, by omega, ?_⟩
  rw [(knots_kids wf).1] at hk
  have := get_le_sum ((kidsD x ps).map knots) i
  rw [List.getElem?_map, e] at this
  have : knots p ≤ ((kidsD x ps).map knots).sum := this
  omega
end K20
end
section
set_option maxHeartbeats 2000000
namespace K20
open PySem L2 L3 KM PyProof.Rows
seal L2.PE L2.PS L2.PSs L2.PT L2.PW L2.PA L2.PG L2.PGs L2.PI L2.PC L2.PO L2.PPs L2.PK L3.PIf
variable {P : Program} {w : World} {K : PySem.W.Frag} {mg : Str → Option Value} {base : Heap} {t : Adr}
theorem leaf_in (x : Str) : inV (.str x) ((["var", "name"] : List Str).map V.str) = leafW x := by
  rw [inV_strs]
  unfold leafW
  rw [Bool.eq_iff_iff]
  simp
theorem sc_law_kids : FnScope ["_law_thing_here"] ["_law_thing_here"] (defScope s_law_kids) := ⟨rfl, rfl, rfl, by decide +kernel, rfl, by decide +kernel, by decide +kernel⟩
theorem c_law_kids (D : Df K mg "_law_kids" s_law_kids ["_law_thing_here"]) (M : Mg mg t) : Cal P w K mg CX0 "_law_kids" (1) ["_law_thing_here"] spKids := by
  refine D.ok sc_law_kids (fun vs H Q E h => ?_) (fun base f cdv A outer s H vs Q E hr h => ?_)
  · obtain ⟨x, ps, v, rfl, _⟩ := h
    rfl
  obtain ⟨x, ps, v, rfl, r, hl, q⟩ := h
  obtain ⟨a, us, rfl, ha, v0, us, rfl, ⟨rfl, hx⟩, rp⟩ := r
  have hlu := rp.length
  have ea : atI (V.str x :: us) 0 = some (.str x) := atI_nat (j := 0) rfl
  refine ⟨_, (pss_cons (ps_if (pt_cmpR op_in_seq (pe_ix ix_tup (pv 0) pe_int (fun _ _ => rfl)) (pe_tup (pa_cons pe_str (pa_cons pe_str pa_nil))) rfl) (pss_one (ps_ret (pe_lst pa_nil))) pss_nil)
      (pss_one (ps_ret (pe_callTy call_list_of rfl M.n_list bt_list (pa_cons (pe_slice sl_tupW (pv 0) (po_some pe_int) po_none) pa_nil))))), ?_⟩
  refine ⟨_, rfl, a, _, _, _, rfl, rfl, SqT.of ha, ea, (by show 2 ≤ sizeLine; decide), fun p1 hp1 => ⟨p1, (["var", "name"] : List Str).map V.str, rfl, .inr (SqT.of upd_same), rfl, rfl, _, rfl, ?_⟩⟩
  have s1 := same_new hp1 (.tup [V.str "var", .str "name"])
  show if (inV (.str x) ((["var", "name"] : List Str).map V.str)) = true then _ else _
  rw [leaf_in]
  generalize upd H p1 (.tup [V.str "var", .str "name"]) = H1 at s1 ⊢
  refine ite2 (fun c => ?_) (fun c => ?_)
  · exact ⟨Nat.zero_le _, fun p hp => q p [] _ (s1.free hp) (s1.trans (same_new hp _)) upd_same (by unfold kidsD; rw [if_pos c]; exact rfl)⟩
  have nk : kidsD x ps = ps := by unfold kidsD; rw [if_neg c]
  rw [nk] at q
  have ec : cutV (V.str x :: us) (some 1) none = us := by
    have := cutV_from (V.str x :: us) 1
    simpa using this
  have h1 := s1 _ _ ha
  refine ⟨_, rfl, _, rfl, a, _, rfl, SqT.of h1, fun p hp => ?_, fun z => ?_⟩
  · rw [ec]
    refine ⟨p, us, rfl, .inr (SqT.of upd_same), fun l hl => ?_⟩
    have s2 := s1.trans ((same_new hp (.tup us)).trans (same_new hl (.lst us)))
    exact q l us _ (s1.free ((same_new hp _).free hl)) s2 upd_same (rp.mono s2)
  · rw [ec] at z
    exact absurd (congrArg List.length z) (by simp)
theorem maxN_snoc : ∀ (l : List Nat) (a : Nat), maxN (l ++ [a]) = max (maxN l) a
  | [], a => by show max a 0 = max 0 a; omega
  | b :: l, a => by
    show max b (maxN (l ++ [a])) = max (max b (maxN l)) a
    rw [maxN_snoc l a]
    omega
def spMeas (n : Nat) : Sp := fun vs H Q _ => ∃ (d : D) (v : V), vs = [v] ∧ Rep H d v ∧ Rz d n ∧ ∀ (q : Addr) (c : Int) (H' : Hp), Same H H' → -1 ≤ c → c ≤ 99 → H' q = some (.tup [.int (knots d : Nat), .int (depth d : Nat), .int c]) → Q (.ref q) H'
theorem sc_law_measured : FnScope ["_law_thing_here", "_law_knots", "_law_deep", "_law_most", "_law_kid", "_law_told_here"] ["_law_thing_here"] (defScope s_law_measured) := ⟨rfl, rfl, rfl, by decide +kernel, rfl, by decide +kernel, by decide +kernel⟩
theorem st_law_measured {n : Nat} (D : Df K mg "_law_measured" s_law_measured ["_law_thing_here"]) (M : Mg mg t) (F_law_kids : Cal P w K mg CX0 "_law_kids" (1) ["_law_thing_here"] spKids) (F_law_measured : Cal P w K mg CX0 "_law_measured" (n + 201) ["_law_thing_here"] (spMeas n)) : Cal P w K mg CX0 "_law_measured" (n + 202) ["_law_thing_here"] (spMeas (n + 1)) := by
  refine D.ok sc_law_measured (fun vs H Q E h => ?_) (fun base f cdv A outer s H vs Q E hr h => ?_)
  · obtain ⟨d, v, rfl, _⟩ := h
    rfl
  obtain ⟨d, v, rfl, r, rz, q⟩ := h
  have hh := hr.hd (by omega)
  obtain ⟨x, ps, k, rfl, wf, hps⟩ := wf_ps rz.wf
  have hk4 := kids4 wf
  obtain ⟨a, us0, rfl, ha, v0, us0, rfl, ⟨rfl, hx⟩, rp⟩ := id r
  have ea : atI (V.str x :: us0) 0 = some (.str x) := atI_nat (j := 0) rfl
  refine ⟨_, (pss_cons (ps_set (i := 1) sc_law_measured.nd rfl (by first | exact Or.inl rfl | exact Or.inr rfl) pe_int)
      (pss_cons (ps_set (i := 2) sc_law_measured.nd rfl (by first | exact Or.inl rfl | exact Or.inr rfl) pe_int)
      (pss_cons (ps_set (i := 3) sc_law_measured.nd rfl (by first | exact Or.inl rfl | exact Or.inr rfl) (pe_un un_neg pe_int))
      (pss_cut (ps_if (pt_cmpR op_eq (pe_ix ix_tup (pv 0) pe_int (fun _ _ => rfl)) pe_str (nomark _)) (pss_one (ps_set (i := 3) sc_law_measured.nd rfl (by first | exact Or.inl rfl | exact Or.inr rfl) (pe_ix ix_tup (pv 0) pe_int (fun _ _ => rfl)))) pss_nil)
      (pss_cons (ps_for PassesOwn.never rfl (pi_list (pe_fn F_law_kids (hr.mono (by omega)) rfl pass0 (pa_cons (pv 0) pa_nil))) (pg_name (i := 4) sc_law_measured.nd rfl (by first | exact Or.inl rfl | exact Or.inr rfl)) (pss_cons (ps_set (i := 5) sc_law_measured.nd rfl (by first | exact Or.inl rfl | exact Or.inr rfl) (pe_fn F_law_measured (hr.mono (by omega)) rfl pass0 (pa_cons (pv 4) pa_nil)))
      (pss_cons (ps_set (i := 1) sc_law_measured.nd rfl (by first | exact Or.inl rfl | exact Or.inr rfl) (pe_op op_add (pv 1) (pe_ix ix_tup (pv 5) pe_int (fun _ _ => rfl))))
      (pss_cons (ps_set (i := 2) sc_law_measured.nd rfl (by first | exact Or.inl rfl | exact Or.inr rfl) (pe_callB (call_max2 hh) rfl M.n_max bt_max (pa_cons (pv 2) (pa_cons (pe_ix ix_tup (pv 5) pe_int (fun _ _ => rfl)) pa_nil))))
      (pss_one (ps_set (i := 3) sc_law_measured.nd rfl (by first | exact Or.inl rfl | exact Or.inr rfl) (pe_callB (call_max2 hh) rfl M.n_max bt_max (pa_cons (pv 3) (pa_cons (pe_ix ix_tup (pv 5) pe_int (fun _ _ => rfl)) pa_nil)))))))))
      (pss_one (ps_ret (pe_tup (pa_cons (pv 1) (pa_cons (pe_op op_add (pv 2) pe_int) (pa_cons (pv 3) pa_nil))))))))))), ?_⟩
  refine ⟨_, rfl, fun σ' H' => ∃ c : Int, σ' = [some (.ref a), some (.int 1), some (.int 0), some (.int c), none, none] ∧ -1 ≤ c ∧ c ≤ 99 ∧ H' = H, ?_, ?_⟩
  · refine ⟨_, rfl, a, _, _, _, rfl, rfl, SqT.of ha, ea, rfl, _, rfl, ?_⟩
    refine ite2 (fun c => ?_) (fun c => ⟨-1, rfl, by decide, by decide, rfl⟩)
    have c : V.str x = V.str "var" := of_decide_eq_true c
    cases c
    obtain ⟨sh, e1, _, e3, _, e5, _⟩ := wf_shape wf
    rw [shape_var] at e1
    cases e1
    rw [len_n] at e3 e5
    obtain ⟨p0, rfl⟩ : ∃ p0, ps = [p0] := by
      cases ps with
      | nil => simp at e5
      | cons p0 rest => cases rest with
        | nil => exact ⟨p0, rfl⟩
        | cons _ _ => simp at e5
    rw [wfL_cons, Bool.and_eq_true] at e3
    have hn : numD p0 = true := by simpa [dueB] using e3.1
    obtain ⟨i, rfl⟩ : ∃ i, p0 = .int i := by cases p0 <;> first | exact ⟨_, rfl⟩ | simp [numD] at hn
    obtain ⟨u1, us1, rfl, r1, _⟩ := rp
    cases (show u1 = V.int i from r1)
    have hi : 0 ≤ i ∧ i ≤ 99 := by simp [numD] at hn; exact hn
    exact ⟨_, rfl, a, _, _, .int i, rfl, rfl, SqT.of ha, atI_nat (j := 1) rfl, i, rfl, by omega, by omega, rfl⟩
  rintro σ' H0 ⟨c, rfl, c0, c1, rfl⟩
  refine ⟨_, rfl, x, ps, _, rfl, r, hps, fun p1 us H1 _ s1 h1 r1 => ⟨p1, rfl, ⟨us, SqL.of h1⟩, ?_⟩⟩
  have l1 := r1.length
  have hkn := knots_kids wf
  refine for_by us.length (fun j σ' H' => ∃ (c : Int) (kv tv : Option V), σ' = [some (.ref a), some (.int ((1 + (((kidsD x ps).take j).map knots).sum : Nat) : Int)), some (.int (maxN (((kidsD x ps).take j).map depth) : Nat)), some (.int c), kv, tv] ∧ -1 ≤ c ∧ c ≤ 99 ∧ Same H1 H') ?_ ?_ ?_
  · exact ⟨c, none, none, rfl, c0, c1, Same.refl _⟩
  · rintro j σ' H2 hj ⟨c, kv, tv, rfl, c0, c1, s2⟩
    obtain ⟨dj, hdj⟩ : ∃ dj, (kidsD x ps)[j]? = some dj := ⟨_, List.getElem?_eq_getElem (by omega)⟩
    obtain ⟨uj, huj, ruj⟩ := r1.get hdj
    refine ⟨⟨us, uj, SqL.of (s2 _ _ h1), huj⟩, ?_⟩
    rintro x' H3 ⟨rfl, hy⟩
    have hy := hy us (SqL.of (s2 _ _ h1))
    rw [huj] at hy
    cases hy
    refine ⟨_, rfl, dj, uj, rfl, ruj.mono s2, rz.kid hdj, fun q3 c3 H4 s4 b0 b1 h4 => ?_⟩
    have hT := SqT.of (K := K) h4
    refine ⟨_, rfl, _, rfl, q3, _, _, _, rfl, rfl, hT, atI_nat (j := 0) rfl, _, _, rfl, rfl, ?_⟩
    refine ⟨_, rfl, _, rfl, q3, _, _, _, rfl, rfl, hT, atI_nat (j := 1) rfl, _, _, rfl, ?_⟩
    refine ⟨_, rfl, _, rfl, q3, _, _, _, rfl, rfl, hT, atI_nat (j := 2) rfl, _, _, rfl, ?_⟩
    refine ⟨if c3 > c then c3 else c, some uj, some (.ref q3), ?_, ?_, ?_, s2.trans s4⟩
    rotate_left
    · show -1 ≤ (if c3 > c then c3 else c)
      split <;> omega
    · show (if c3 > c then c3 else c) ≤ 99
      split <;> omega
    · rw [take_snoc hdj, List.map_append, List.map_append, List.sum_append, List.map_singleton, List.map_singleton, maxN_snoc, List.sum_singleton]
      have e1 : ((1 + (((kidsD x ps).take j).map knots).sum : Nat) : Int) + ((knots dj : Nat) : Int) = ((1 + ((((kidsD x ps).take j).map knots).sum + knots dj) : Nat) : Int) := by omega
      have e2 : (if ((depth dj : Nat) : Int) > ((maxN (((kidsD x ps).take j).map depth) : Nat) : Int) then ((depth dj : Nat) : Int) else ((maxN (((kidsD x ps).take j).map depth) : Nat) : Int)) = ((max (maxN (((kidsD x ps).take j).map depth)) (depth dj) : Nat) : Int) := by
        split <;> omega
      rw [← e1, ← e2]
      rfl
  · rintro σ' H2 ⟨c, kv, tv, rfl, c0, c1, s2⟩
    refine ⟨⟨us, SqL.of (s2 _ _ h1), Nat.le_refl _⟩, ?_⟩
    refine ⟨_, rfl, _, rfl, _, _, rfl, rfl, _, rfl, (by show 3 ≤ sizeLine; decide), fun q4 hq4 => ?_⟩
    refine q q4 c _ (s1.trans (s2.trans (same_new hq4 _))) c0 c1 ?_
    rw [hkn.1, hkn.2]
    rw [l1, List.take_length]
    have e2 : ((maxN ((kidsD x ps).map depth) : Nat) : Int) + 1 = ((1 + maxN ((kidsD x ps).map depth) : Nat) : Int) := by omega
    rw [← e2]
    exact upd_same
theorem c_law_measured (D : Df K mg "_law_measured" s_law_measured ["_law_thing_here"]) (M : Mg mg t) (F_law_kids : Cal P w K mg CX0 "_law_kids" (1) ["_law_thing_here"] spKids) : ∀ n : Nat, Cal P w K mg CX0 "_law_measured" (n + 201) ["_law_thing_here"] (spMeas n)
  | 0 => Cal.never D fun vs H Q E ⟨d, v, _, _, h, _⟩ => absurd h.dp (Nat.not_lt_zero _)
  | n + 1 => st_law_measured D M F_law_kids (c_law_measured D M F_law_kids n)
def spGreat (n : Nat) : Sp := fun vs H Q _ => ∃ (d : D) (v : V), vs = [v] ∧ Rep H d v ∧ Rz d n ∧ ∀ H', Same H H' → Q (.bl (vastD d)) H'
theorem sc_law_great : FnScope ["_law_thing_here", "_law_told_here"] ["_law_thing_here"] (defScope s_law_great) := ⟨rfl, rfl, rfl, by decide +kernel, rfl, by decide +kernel, by decide +kernel⟩
theorem c_law_great {n : Nat} (D : Df K mg "_law_great" s_law_great ["_law_thing_here"]) (M : Mg mg t) (F_law_measured : Cal P w K mg CX0 "_law_measured" (n + 201) ["_law_thing_here"] (spMeas n)) : Cal P w K mg CX0 "_law_great" (n + 202) ["_law_thing_here"] (spGreat n) := by
  refine D.ok sc_law_great (fun vs H Q E h => ?_) (fun base f cdv A outer s H vs Q E hr h => ?_)
  · obtain ⟨d, v, rfl, _⟩ := h
    rfl
  obtain ⟨d, v, rfl, r, rz, q⟩ := h
  refine ⟨_, (pss_cons (ps_set (i := 1) sc_law_great.nd rfl (by first | exact Or.inl rfl | exact Or.inr rfl) (pe_fn F_law_measured (hr.mono (by omega)) rfl pass0 (pa_cons (pv 0) pa_nil)))
      (pss_one (ps_ret (pe_or (pe_cmpR op_gt (pe_ix ix_tup (pv 1) pe_int (fun _ _ => rfl)) pe_int (nomark _)) (pe_or (pe_cmpR op_gt (pe_ix ix_tup (pv 1) pe_int (fun _ _ => rfl)) pe_int (nomark _)) (pe_one (pe_cmpR op_gt (pe_ix ix_tup (pv 1) pe_int (fun _ _ => rfl)) pe_int (nomark _)))))))), ?_⟩
  refine ⟨_, rfl, d, v, rfl, r, rz, fun q3 c3 H1 s1 b0 b1 h1 => ?_⟩
  have hT := SqT.of (K := K) h1
  refine ⟨_, rfl, q3, _, _, _, rfl, rfl, hT, atI_nat (j := 0) rfl, _, _, rfl, rfl, _, rfl, ?_⟩
  have qq := q H1 s1
  refine ite2 (fun c => ?_) (fun c => ?_)
  · have c : (600 : Int) < ((knots d : Nat) : Int) := of_decide_eq_true c
    have e : vastD d = true := by unfold vastD; simp; omega
    rw [e] at qq
    exact qq
  have c : ¬ (600 : Int) < ((knots d : Nat) : Int) := of_decide_eq_false (Bool.eq_false_iff.mpr c)
  refine ⟨_, rfl, q3, _, _, _, rfl, rfl, hT, atI_nat (j := 1) rfl, _, _, rfl, rfl, _, rfl, ?_⟩
  refine ite2 (fun c2 => ?_) (fun c2 => ?_)
  · have c2 : (40 : Int) < ((depth d : Nat) : Int) := of_decide_eq_true c2
    have e : vastD d = true := by unfold vastD; simp; omega
    rw [e] at qq
    exact qq
  have c2 : ¬ (40 : Int) < ((depth d : Nat) : Int) := of_decide_eq_false (Bool.eq_false_iff.mpr c2)
  have e : vastD d = false := by unfold vastD; simp; omega
  rw [e] at qq
  refine ⟨_, rfl, q3, _, _, _, rfl, rfl, hT, atI_nat (j := 2) rfl, _, _, rfl, rfl, ?_⟩
  have e2 : decide ((99 : Int) < c3) = false := decide_eq_false (by omega)
  show Q (.bl (decide ((99 : Int) < c3))) H1
  rw [e2]
  exact qq
def spThing (K : PySem.W.Frag) : Sp := fun vs H Q _ => ∃ (a p c : Addr) (ns : List Int) (i deep near : Int), vs = [.ref a, .ref p, .int deep, .int near, .ref c] ∧ Sg K a p c ns H i ∧ i < 2 ^ 50 ∧ 1 ≤ deep ∧ deep ≤ 5 ∧ 0 ≤ near ∧ near ≤ 90 ∧
  ∀ (k : Bool) (d : D) (v : V) (H' : Hp) (i' : Int), Ou K a p c ns H i k 16 300000 1000000000 d v H' i' → Q v H'
theorem sc_law_thing : FnScope ["_law_script", "_law_tape", "_law_deep", "_law_near", "_law_pool_here", "_law_made"] ["_law_script", "_law_tape", "_law_deep", "_law_near", "_law_pool_here"] (defScope s_law_thing) := ⟨rfl, rfl, rfl, by decide +kernel, rfl, by decide +kernel, by decide +kernel⟩
theorem c_law_thing (D : Df K mg "_law_thing" s_law_thing ["_law_script", "_law_tape", "_law_deep", "_law_near", "_law_pool_here"]) (M : Mg mg t) (F_law_draw : Cal P w K mg CX0 "_law_draw" (1) ["_law_script", "_law_tape", "_law_many"] (spDraw K)) (F_law_kind : Cal P w K mg CX0 "_law_kind" (223) ["_law_script", "_law_tape", "_law_deep", "_law_near", "_law_pool_here"] (spGen K true 7)) (F_law_term : Cal P w K mg CX0 "_law_term" (223) ["_law_script", "_law_tape", "_law_deep", "_law_near", "_law_pool_here"] (spGen K false 7)) (F_law_great : Cal P w K mg CX0 "_law_great" (222) ["_law_thing_here"] (spGreat 20)) : Cal P w K mg CX0 "_law_thing" (224) ["_law_script", "_law_tape", "_law_deep", "_law_near", "_law_pool_here"] (spThing K) := by
  refine D.ok sc_law_thing (fun vs H Q E h => ?_) (fun base f cdv A outer s H vs Q E hr h => ?_)
  · obtain ⟨a, p, c, ns, i, deep, near, rfl, _⟩ := h
    rfl
  obtain ⟨a, p, c, ns, i, deep, near, rfl, g, hi, d0, d1, n0, n1, q⟩ := h
  have i0 := g.T.i0
  have ec : cst 7 = 100000000 := by decide
  have e5 : p5 7 = 78125 := by decide
  refine ⟨_, (pss_cut (ps_if (pt_cmpR op_eq (pe_fn F_law_draw (hr.mono (by omega)) rfl pass0 (pa_cons (pv 0) (pa_cons (pv 1) (pa_cons pe_int pa_nil)))) pe_int (nomark _)) (pss_one (ps_set (i := 5) sc_law_thing.nd rfl (by first | exact Or.inl rfl | exact Or.inr rfl) (pe_fn F_law_kind (hr.mono (by omega)) rfl pass0 (pa_cons (pv 0) (pa_cons (pv 1) (pa_cons (pv 2) (pa_cons (pv 3) (pa_cons (pv 4) pa_nil)))))))) (pss_one (ps_set (i := 5) sc_law_thing.nd rfl (by first | exact Or.inl rfl | exact Or.inr rfl) (pe_fn F_law_term (hr.mono (by omega)) rfl pass0 (pa_cons (pv 0) (pa_cons (pv 1) (pa_cons (pv 2) (pa_cons (pv 3) (pa_cons (pv 4) pa_nil)))))))))
      (pss_cons (ps_if (pt_val (pe_fn F_law_great (hr.mono (by omega)) rfl pass0 (pa_cons (pv 5) pa_nil))) (pss_one (ps_ret (pe_tup (pa_cons pe_str pa_nil)))) pss_nil)
      (pss_one (ps_ret (pv 5))))), ?_⟩
  refine ⟨fun σ' H' => ∃ (k : Bool) (d : KM.D) (v : V) (i' : Int), σ' = [some (.ref a), some (.ref p), some (.int deep), some (.int near), some (.ref c), some v] ∧ Ou K a p c ns H i k 16 300000 1000000000 d v H' i', ?_, ?_⟩
  · refine ⟨_, rfl, _, rfl, a, p, ns, i, 5, rfl, g.T, (by omega), (by decide), fun way H1 w0 w1 x1 h1 => ⟨rfl, _, rfl, ?_⟩⟩
    have g1 := g.next x1 h1 (by omega)
    refine ite2 (fun _ => ?_) (fun _ => ?_)
    · exact ⟨_, rfl, _, rfl, _, rfl, _, rfl, _, rfl, a, p, c, ns, i + 1, deep, near, rfl, g1, (by omega), (by omega), (by omega), (by decide), n0, (by omega), fun d v H' i' o => ⟨true, d, v, i', rfl, (o.after (co1 := 1) x1 (by omega) (by omega)).weak (by decide) (by omega) (by omega)⟩⟩
    · exact ⟨_, rfl, _, rfl, _, rfl, _, rfl, _, rfl, a, p, c, ns, i + 1, deep, near, rfl, g1, (by omega), (by omega), (by omega), (by decide), n0, (by omega), fun d v H' i' o => ⟨false, d, v, i', rfl, (o.after (co1 := 1) x1 (by omega) (by omega)).weak (by decide) (by omega) (by omega)⟩⟩
  rintro σ' H1 ⟨k, d, v, i', rfl, o⟩
  have odp := o.dp
  have okn := o.kn
  refine ⟨_, rfl, d, v, rfl, o.r, ⟨⟨k, o.wf⟩, by omega, by omega⟩, fun H2 s2 => ⟨_, rfl, ?_⟩⟩
  refine ite2 (fun _ => ?_) (fun _ => ?_)
  · refine ⟨(by show 1 ≤ sizeLine; decide), fun q1 e1 => ?_⟩
    exact q false _ _ _ _ (made (o.sx.trans s2.x) (o.g.mono s2) e1 (rs rw_ r0) wf_zero (by simp only [depth, depthL]; omega) (by simp only [knots, knotsL]; omega) o.lo o.hi)
  · exact ⟨_, rfl, q k d v H2 i' ⟨o.r.mono s2, o.wf, o.dp, o.kn, o.sx.trans s2.x, o.g.mono s2, o.lo, o.hi⟩⟩
end K20
end
section
set_option maxHeartbeats 2000000
namespace K20
open PySem L2 L3 KM PyProof.Rows
seal L2.PE L2.PS L2.PSs L2.PT L2.PW L2.PA L2.PG L2.PGs L2.PI L2.PC L2.PO L2.PPs L2.PK L3.PIf
variable {P : Program} {w : World} {K : PySem.W.Frag} {mg : Str → Option Value} {base : Heap} {t : Adr}
def BkV (H : Hp) (v : V) : Prop := ∃ (q : Addr) (dk dt : D) (vk vt : V), v = .ref q ∧ H q = some (.tup [vk, vt]) ∧ Rep H dk vk ∧ wfG isStrD true dk = true ∧ Rep H dt vt ∧ wfG isStrD false dt = true ∧ depth dk ≤ 16 ∧ depth dt ≤ 16 ∧ knots dk ≤ 300000 ∧ knots dt ≤ 300000
structure Bk (H : Hp) (kvs : List (Key × V)) : Prop where
  len : kvs.length ≤ 1000
  each : ∀ k v, (k, v) ∈ kvs → BkV H v
theorem BkV.sx {H H' : Hp} {p : Addr} {v : V} (h : BkV H v) (s : SameX p H H') (hp : ∀ vs, H p ≠ some (.tup vs)) : BkV H' v := by
  obtain ⟨q, dk, dt, vk, vt, e, hq, r1, w1, r2, w2, b⟩ := h
  exact ⟨q, dk, dt, vk, vt, e, s _ _ (fun z => by subst z; exact hp _ hq) hq, r1.monoX s hp, w1, r2.monoX s hp, w2, b⟩
theorem Bk.sx {H H' : Hp} {p : Addr} {kvs : List (Key × V)} (h : Bk H kvs) (s : SameX p H H') (hp : ∀ vs, H p ≠ some (.tup vs)) : Bk H' kvs := ⟨h.len, fun k v m => (h.each k v m).sx s hp⟩
theorem BkV.mono {H H' : Hp} {v : V} (h : BkV H v) (s : Same H H') : BkV H' v := by
  obtain ⟨q, dk, dt, vk, vt, e, hq, r1, w1, r2, w2, b⟩ := h
  exact ⟨q, dk, dt, vk, vt, e, s _ _ hq, r1.mono s, w1, r2.mono s, w2, b⟩
theorem Bk.mono {H H' : Hp} {kvs : List (Key × V)} (h : Bk H kvs) (s : Same H H') : Bk H' kvs := ⟨h.len, fun k v m => (h.each k v m).mono s⟩
theorem put_mem {kvs : List (Key × V)} {k k' : Key} {v v' : V} (h : (k', v') ∈ putK kvs k v) : (k', v') ∈ kvs ∨ v' = v := by
  unfold putK at h
  split at h
  · obtain ⟨⟨a, b⟩, m, e⟩ := List.mem_map.mp h
    simp only at e
    split at e
    · cases e
      exact .inr rfl
    · cases e
      exact .inl m
  · rcases List.mem_append.mp h with m | m
    · exact .inl m
    · have := List.mem_singleton.mp m
      cases this
      exact .inr rfl
theorem put_len {kvs : List (Key × V)} {k : Key} {v : V} : (putK kvs k v).length ≤ kvs.length + 1 := by
  unfold putK
  split
  · rw [List.length_map]; omega
  · rw [List.length_append, List.length_singleton]
    exact Nat.le_refl _
theorem not_tup_list {H : Hp} {p : Addr} {xs : List V} (h : H p = some (.lst xs)) : ∀ vs, H p ≠ some (.tup vs) := fun vs z => by rw [h] at z; cases z
theorem not_tup_dict {H : Hp} {p : Addr} {xs : List (Key × V)} (h : H p = some (.dK xs)) : ∀ vs, H p ≠ some (.tup vs) := fun vs z => by rw [h] at z; cases z
def spBook (K : PySem.W.Frag) : Sp := fun vs H Q _ => ∃ (a p c : Addr) (ns : List Int) (i : Int), vs = [.ref a, .ref p, .ref c] ∧ Sg K a p c ns H i ∧ i < 2 ^ 50 ∧
  ∀ (b : Addr) (kvs : List (Key × V)) (H' : Hp) (i' : Int), H b = none → H' b = some (.dK kvs) → kvs.length ≤ 3 → Bk H' kvs → SameX p H H' → Sg K a p c ns H' i' → i ≤ i' → i' ≤ i + 10000000000 → Q (.ref b) H'
theorem sc_law_book : FnScope ["_law_script", "_law_tape", "_law_pool_here", "_law_book_here", "_law_k", "_law_kind_here"] ["_law_script", "_law_tape", "_law_pool_here"] (defScope s_law_book) := ⟨rfl, rfl, rfl, by decide +kernel, rfl, by decide +kernel, by decide +kernel⟩
theorem c_law_book (D : Df K mg "_law_book" s_law_book ["_law_script", "_law_tape", "_law_pool_here"]) (M : Mg mg t) (F_law_draw : Cal P w K mg CX0 "_law_draw" (1) ["_law_script", "_law_tape", "_law_many"] (spDraw K)) (F_law_kind : Cal P w K mg CX0 "_law_kind" (223) ["_law_script", "_law_tape", "_law_deep", "_law_near", "_law_pool_here"] (spGen K true 7)) (F_law_term : Cal P w K mg CX0 "_law_term" (223) ["_law_script", "_law_tape", "_law_deep", "_law_near", "_law_pool_here"] (spGen K false 7)) : Cal P w K mg CX0 "_law_book" (224) ["_law_script", "_law_tape", "_law_pool_here"] (spBook K) := by
  refine D.ok sc_law_book (fun vs H Q E h => ?_) (fun base f cdv A outer s H vs Q E hr h => ?_)
  · obtain ⟨a, p, c, ns, i, rfl, _⟩ := h
    rfl
  obtain ⟨a, p, c, ns, i, rfl, g, hi, q⟩ := h
  have i0 := g.T.i0
  have hu := hu_of hr
  have ec : cst 7 = 100000000 := by decide
  have e5 : p5 7 = 78125 := by decide
  refine ⟨_, (pss_cons (ps_set (i := 3) sc_law_book.nd rfl (by first | exact Or.inl rfl | exact Or.inr rfl) pe_dnewK)
      (pss_cons (ps_for PassesOwn.never rfl (pi_range1 rfl M.n_range (pa_cons (pe_fn F_law_draw (hr.mono (by omega)) rfl pass0 (pa_cons (pv 0) (pa_cons (pv 1) (pa_cons pe_int pa_nil)))) pa_nil)) (pg_name (i := 4) sc_law_book.nd rfl (by first | exact Or.inl rfl | exact Or.inr rfl)) (pss_cons (ps_set (i := 5) sc_law_book.nd rfl (by first | exact Or.inl rfl | exact Or.inr rfl) (pe_fn F_law_kind (hr.mono (by omega)) rfl pass0 (pa_cons (pv 0) (pa_cons (pv 1) (pa_cons pe_int (pa_cons pe_int (pa_cons (pv 2) pa_nil)))))))
      (pss_one (ps_dput hu (pv 3) (pe_ix ix_list (pv 2) (pv 4) (fun _ _ => rfl)) (pe_tup (pa_cons (pv 5) (pa_cons (pe_fn F_law_term (hr.mono (by omega)) rfl pass0 (pa_cons (pv 0) (pa_cons (pv 1) (pa_cons pe_int (pa_cons pe_int (pa_cons (pv 2) pa_nil)))))) pa_nil))) rfl))))
      (pss_one (ps_ret (pv 3))))), ?_⟩
  intro b hb
  have sb := same_new hb (.dK [])
  have hb0 : (upd H b (.dK [])) b = some (.dK []) := upd_same
  have gb := g.mono sb
  have xb : SameX p H (upd H b (.dK [])) := sb.x
  have nb : b ≠ p := fun z => by subst z; rw [g.T.tape] at hb; cases hb
  generalize upd H b (.dK []) = H0 at sb hb0 gb xb ⊢
  refine ⟨_, rfl, _, rfl, a, p, ns, i, 4, rfl, gb.T, (by omega), (by decide), fun m H1 m0 m1 x1 h1 => ⟨_, rfl, (by omega), (by omega), ?_⟩⟩
  obtain ⟨m, rfl⟩ : ∃ k : Nat, m = (k : Int) := ⟨m.toNat, by omega⟩
  have g1 := gb.next x1 h1 (by omega)
  have hb1 := x1 _ _ nb hb0
  refine for_by (m : Int).toNat (fun k σ' H' => ∃ (kvs : List (Key × V)) (i' : Int) (kv hv : Option V), σ' = [some (.ref a), some (.ref p), some (.ref c), some (.ref b), kv, hv] ∧ H' b = some (.dK kvs) ∧ kvs.length ≤ k ∧ Bk H' kvs ∧ SameX p H H' ∧ Sg K a p c ns H' i' ∧ i ≤ i' ∧ i' ≤ i + 1 + 200000000 * (k : Int)) ?_ ?_ ?_
  · exact ⟨[], i + 1, none, none, rfl, hb1, Nat.le_refl _, ⟨by simp, fun k v h => by cases h⟩, xb.trans x1, g1, by omega, by omega⟩
  · rintro k σ' H2 hk ⟨kvs, i2, kv, hv, rfl, h2, l2, B2, x2, g2, lo2, hi2⟩
    refine ⟨hk, ?_⟩
    rintro x' H2' ⟨rfl, rfl⟩
    have e0 : (0 : Int) + (k : Int) = ((k : Nat) : Int) := by omega
    rw [e0]
    refine ⟨_, rfl, _, rfl, _, rfl, a, p, c, ns, i2, 1, 0, rfl, g2, (by omega), (by decide), (by decide), (by decide), (by decide), (by decide), fun dA vA H3 i3 oA => ?_⟩
    have hA := oA.hi
    have lA := oA.lo
    refine ⟨_, rfl, _, rfl, _, rfl, _, rfl, a, p, c, ns, i3, 2, 0, rfl, oA.g, (by omega), (by decide), (by decide), (by decide), (by decide), (by decide), fun dB vB H4 i4 oB => ⟨(by show 2 ≤ sizeLine; decide), fun q1 e1 => ?_⟩⟩
    have hB := oB.hi
    have lB := oB.lo
    have t1 := same_new e1 (.tup [vA, vB])
    have x34 := oA.sx.trans oB.sx
    have g5 := oB.g.mono t1
    have h5 := t1 _ _ (x34 _ _ nb h2)
    have B5 := (B2.sx x34 (not_tup_list g2.T.tape)).mono t1
    have rA := (oA.later oB.sx).mono t1
    have rB := oB.r.mono t1
    have hq1 : (upd H4 q1 (.tup [vA, vB])) q1 = some (.tup [vA, vB]) := upd_same
    have x5 := (x2.trans x34).trans t1.x
    generalize upd H4 q1 (.tup [vA, vB]) = H5 at t1 g5 h5 B5 rA rB hq1 x5 ⊢
    obtain ⟨x, y, z, l1, l2', l3, hc⟩ := g5.pl
    obtain ⟨o, ho, hol⟩ : ∃ o : Str, atI [V.str x, .str y, .str z] ((k : Nat) : Int) = some (.str o) ∧ o.length ≤ 101 := by
      have hk3 : k = 0 ∨ k = 1 ∨ k = 2 := by omega
      rcases hk3 with rfl | rfl | rfl
      · exact ⟨x, rfl, l1⟩
      · exact ⟨y, rfl, l2'⟩
      · exact ⟨z, rfl, l3⟩
    refine ⟨_, rfl, _, rfl, _, rfl, c, _, _, _, rfl, rfl, SqL.of hc, ho, b, _, rfl, DPut.k (k := Sum.inr o) h5 (by have : kvs.length ≤ 1000 := B2.len; exact Nat.lt_of_le_of_lt this (by decide)), ?_⟩
    have xu : SameX b H5 (upd H5 b (.dK (putK kvs (Sum.inr o) (.ref q1)))) := SameX.upd _
    have dA' := oA.dp
    have dB' := oB.dp
    have kA' := oA.kn
    have kB' := oB.kn
    have bV : BkV H5 (.ref q1) := ⟨q1, dA, dB, vA, vB, rfl, hq1, rA, oA.wf, rB, oB.wf, dA', dB', by omega, by omega⟩
    have hB' : H b = none := hb
    refine ⟨putK kvs (Sum.inr o) (.ref q1), i4, _, _, rfl, upd_same, Nat.le_trans put_len (by omega), ⟨Nat.le_trans put_len (by omega), fun k' v' m' => ?_⟩, ?_, ?_, by omega, by omega⟩
    · rcases put_mem m' with m' | rfl
      · exact (B5.each k' v' m').sx xu (not_tup_dict h5)
      · exact bV.sx xu (not_tup_dict h5)
    · intro b' o' n' h'
      rw [upd_ne (ne_of_none h' hb)]
      exact x5 b' o' n' h'
    · exact g5.upd h5
  · rintro σ' H2 ⟨kvs, i2, kv, hv, rfl, h2, l2, B2, x2, g2, lo2, hi2⟩
    refine ⟨Nat.le_refl _, _, rfl, q b kvs H2 i2 hb h2 (by omega) B2 x2 g2 lo2 (by omega)⟩
end K20
end
section
set_option maxHeartbeats 2000000
namespace K20
open PySem L2 L3 KM PyProof.Rows
seal L2.PE L2.PS L2.PSs L2.PT L2.PW L2.PA L2.PG L2.PGs L2.PI L2.PC L2.PO L2.PPs L2.PK L3.PIf
variable {P : Program} {w : World} {K : PySem.W.Frag} {mg : Str → Option Value} {base : Heap} {t : Adr}
def hdD : D → Str
  | .tup (.str x :: _) => x
  | _ => ""
def nameB (inb : Str → Bool) : D → V
  | .str y => if inb y = true then .str "name" else .non
  | _ => .non
def ruleW (inb : Str → Bool) (x : Str) (ps : List D) : V :=
  if x = "name" then nameB inb ((ps[0]?).getD .non)
  else if x = "app" then (if hdD ((ps[0]?).getD .non) = "fun" then .str "fun" else .non)
  else if x = "carry" then (if hdD ((ps[2]?).getD .non) = "like" then .str "like" else .non)
  else if x = "first" then (if hdD ((ps[0]?).getD .non) = "pair" then .str "first" else .non)
  else if x = "second" then (if hdD ((ps[0]?).getD .non) = "pair" then .str "second" else .non)
  else if x = "rec" then (if hdD ((ps[3]?).getD .non) = "zero" then .str "zero" else if hdD ((ps[3]?).getD .non) = "next" then .str "next" else .non)
  else .non
def ruleD (inb : Str → Bool) : D → V
  | .tup (.str x :: ps) => ruleW inb x ps
  | _ => .non
theorem wfL_get {nm : D → Bool} : ∀ {cs : List Nat} {ps : List D} {i c : Nat}, wfL nm cs ps = true → cs[i]? = some c → ∃ p, ps[i]? = some p ∧ dueB nm c p = true
  | [], [], _, _, _, e => by simp at e
  | [], _ :: _, _, _, h, _ => by simp [wfL] at h
  | _ :: _, [], _, _, h, _ => by simp [wfL] at h
  | a :: cs, p :: ps, 0, c, h, e => by
    simp at e
    subst e
    rw [wfL_cons, Bool.and_eq_true] at h
    exact ⟨p, rfl, h.1⟩
  | a :: cs, p :: ps, i + 1, c, h, e => by
    rw [wfL_cons, Bool.and_eq_true] at h
    obtain ⟨c, h1, h2⟩ := wfL_get (i := i) h.2 (by simpa using e)
    exact ⟨c, by simpa using h1, h2⟩
theorem part_of {k : Bool} {x s : Str} {ps : List D} (h : wfG isStrD k (.tup (.str x :: ps)) = true) (hs : shapeV x = .str s) {i : Nat} (hi : s.cps.toList[i]? = some 116) : ∃ p, ps[i]? = some p ∧ wfG isStrD false p = true := by
  obtain ⟨s', e1, _, e3, _⟩ := wf_shape h
  rw [hs] at e1
  cases e1
  obtain ⟨p, h1, h2⟩ := wfL_get e3 hi
  exact ⟨p, h1, by simpa [dueB] using h2⟩
theorem hd_rep {H : Hp} {k : Bool} {p : D} {u : V} (h : wfG isStrD k p = true) (r : Rep H p u) : ∃ (c : Addr) (us : List V), u = .ref c ∧ H c = some (.tup (.str (hdD p) :: us)) := by
  obtain ⟨x, ps, rfl⟩ := wf_form h
  obtain ⟨c, vs, rfl, hc, v0, us, rfl, ⟨rfl, _⟩, _⟩ := r
  exact ⟨c, us, rfl, hc⟩
theorem part_rep {H : Hp} {k : Bool} {x s : Str} {ps : List D} {us : List V} (h : wfG isStrD k (.tup (.str x :: ps)) = true) (r : Reps H ps us) (hs : shapeV x = .str s) {i : Nat} (hi : s.cps.toList[i]? = some 116) :
    ∃ (c : Addr) (ws : List V), atI (V.str x :: us) ((i + 1 : Nat) : Int) = some (.ref c) ∧ H c = some (.tup (.str (hdD ((ps[i]?).getD .non)) :: ws)) := by
  obtain ⟨p, h1, h2⟩ := part_of h hs hi
  obtain ⟨u, hu, ru⟩ := r.get h1
  obtain ⟨c, ws, rfl, hc⟩ := hd_rep h2 ru
  refine ⟨c, ws, atI_nat (by simpa using hu), ?_⟩
  rw [h1]
  exact hc
def inB (kvs : List (Key × V)) (x : Str) : Bool := (valV kvs (Sum.inr x : Key)).isSome
def spRule : Sp := fun vs H Q _ => ∃ (d : D) (v : V) (b : Addr) (kvs : List (Key × V)), vs = [v, .ref b] ∧ Rep H d v ∧ Wf d ∧ H b = some (.dK kvs) ∧ ∀ H', Same H H' → Q (ruleD (inB kvs) d) H'
theorem name_part {k : Bool} {ps : List D} (h : wfG isStrD k (.tup (.str "name" :: ps)) = true) : ∃ y, ps = [.str y] := by
  obtain ⟨s', e1, _, e3, _⟩ := wf_shape h
  rw [shape_name] at e1
  cases e1
  rw [len_w] at e3
  match ps, e3 with
  | [], e3 => simp [wfL] at e3
  | [p], e3 =>
    rw [wfL_cons, Bool.and_eq_true] at e3
    have : isStrD p = true := by simpa [dueB] using e3.1
    cases p with
    | str y => exact ⟨y, rfl⟩
    | _ => simp [isStrD] at this
  | p :: q :: r, e3 =>
    rw [wfL_cons, Bool.and_eq_true] at e3
    have := e3.2
    simp [wfL] at this
theorem val4 (v1 v2 v3 v4 : V) (x : Str) : valV [((Sum.inr "app" : Key), v1), (Sum.inr "carry", v2), (Sum.inr "first", v3), (Sum.inr "second", v4)] (Sum.inr x : Key) = if x = "app" then some v1 else if x = "carry" then some v2 else if x = "first" then some v3 else if x = "second" then some v4 else none := by
  have inj : ∀ y : Str, (Sum.inr y : Key) = Sum.inr x ↔ x = y := fun y => ⟨fun z => by cases z; rfl, fun z => by rw [z]⟩
  by_cases h1 : x = "app"
  · rw [if_pos h1, valV_pos ((inj _).mpr h1)]
  rw [if_neg h1, valV_neg (fun z => h1 ((inj _).mp z))]
  by_cases h2 : x = "carry"
  · rw [if_pos h2, valV_pos ((inj _).mpr h2)]
  rw [if_neg h2, valV_neg (fun z => h2 ((inj _).mp z))]
  by_cases h3 : x = "first"
  · rw [if_pos h3, valV_pos ((inj _).mpr h3)]
  rw [if_neg h3, valV_neg (fun z => h3 ((inj _).mp z))]
  by_cases h4 : x = "second"
  · rw [if_pos h4, valV_pos ((inj _).mpr h4)]
  rw [if_neg h4, valV_neg (fun z => h4 ((inj _).mp z))]
  rfl
theorem merge4 (v1 v2 v3 v4 : V) : mergeK [] [((Sum.inr "app" : Key), v1), (Sum.inr "carry", v2), (Sum.inr "first", v3), (Sum.inr "second", v4)] = [((Sum.inr "app" : Key), v1), (Sum.inr "carry", v2), (Sum.inr "first", v3), (Sum.inr "second", v4)] := by
  rfl
theorem sc_law_rule : FnScope ["_law_thing_here", "_law_book_here", "_law_word", "_law_heads"] ["_law_thing_here", "_law_book_here"] (defScope s_law_rule) := ⟨rfl, rfl, rfl, by decide +kernel, rfl, by decide +kernel, by decide +kernel⟩
theorem c_law_rule (D : Df K mg "_law_rule" s_law_rule ["_law_thing_here", "_law_book_here"]) (M : Mg mg t) : Cal P w K mg CX0 "_law_rule" (1) ["_law_thing_here", "_law_book_here"] spRule := by
  refine D.ok sc_law_rule (fun vs H Q E h => ?_) (fun base f cdv A outer s H vs Q E hr h => ?_)
  · obtain ⟨d, v, b, kvs, rfl, _⟩ := h
    rfl
  obtain ⟨d, v, b, kvs, rfl, r, wf, hb, q⟩ := h
  have hu := hu_of hr
  obtain ⟨x, ps, k, rfl, wfk, hps⟩ := wf_ps wf
  obtain ⟨a, us0, rfl, ha, v0, us, rfl, ⟨rfl, hx⟩, rp⟩ := id r
  have ea : atI (V.str x :: us) 0 = some (.str x) := atI_nat (j := 0) rfl
  refine ⟨_, (pss_cons (ps_set (i := 2) sc_law_rule.nd rfl (by first | exact Or.inl rfl | exact Or.inr rfl) (pe_ix ix_tup (pv 0) pe_int (fun _ _ => rfl)))
      (pss_cons (ps_if (pt_cmpR op_eq (pv 2) pe_str (nomark _)) (pss_one (ps_ret (pe_ix ix_list (pe_lst (pa_cons pe_str (pa_cons pe_non pa_nil))) (pe_callTy call_int1 rfl M.n_int bt_int (pa_cons (pe_cmp (pc_dnotin hu (pe_ix ix_tup (pv 0) pe_int (fun _ _ => rfl)) (pv 1))) pa_nil)) (fun _ _ => rfl)))) pss_nil)
      (pss_cons (ps_set (i := 3) sc_law_rule.nd rfl (by first | exact Or.inl rfl | exact Or.inr rfl) (pe_disp (pps_cons pe_str (pe_tup (pa_cons pe_int (pa_cons pe_str pa_nil))) (pps_cons pe_str (pe_tup (pa_cons pe_int (pa_cons pe_str pa_nil))) (pps_cons pe_str (pe_tup (pa_cons pe_int (pa_cons pe_str pa_nil))) (pps_cons pe_str (pe_tup (pa_cons pe_int (pa_cons pe_str pa_nil))) pps_nil)))) rfl rfl (by simp) (by decide)))
      (pss_cut (ps_if (L2.PW.pt (pw_and (pt_cmp (pc_din hu (pv 2) (pv 3))) (pw_and1 (pt_cmpR op_eq (pe_ix ix_tup (pe_ix ix_tup (pv 0) (pe_ix ix_tup (pe_dget hu (pv 3) (pv 2) (fun _ _ => rfl)) pe_int (fun _ _ => rfl)) (fun _ _ => rfl)) pe_int (fun _ _ => rfl)) (pe_ix ix_tup (pe_dget hu (pv 3) (pv 2) (fun _ _ => rfl)) pe_int (fun _ _ => rfl)) (nomark _))))) (pss_one (ps_ret (pe_dget hu (pe_disp (pps_cons pe_str pe_str (pps_cons pe_str pe_str (pps_cons pe_str pe_str (pps_cons pe_str pe_str pps_nil)))) rfl rfl (by simp) (by decide)) (pv 2) (fun _ _ => rfl)))) pss_nil)
      (pss_cons (ps_if (L2.PW.pt (pw_and (pt_cmpR op_eq (pv 2) pe_str (nomark _)) (pw_and1 (pt_cmpR op_in_seq (pe_ix ix_tup (pe_ix ix_tup (pv 0) pe_int (fun _ _ => rfl)) pe_int (fun _ _ => rfl)) (pe_tup (pa_cons pe_str (pa_cons pe_str pa_nil))) rfl)))) (pss_one (ps_ret (pe_ix ix_tup (pe_ix ix_tup (pv 0) pe_int (fun _ _ => rfl)) pe_int (fun _ _ => rfl)))) pss_nil)
      (pss_one (ps_ret pe_non))))))), ?_⟩
  refine ⟨_, rfl, a, _, _, _, rfl, rfl, SqT.of ha, ea, ?_⟩
  refine ⟨_, rfl, rfl, _, rfl, ?_⟩
  refine ite2 (fun c => ?_) (fun c => ?_)
  · have c : V.str x = V.str "name" := of_decide_eq_true c
    cases c
    obtain ⟨y, rfl⟩ := name_part wfk
    obtain ⟨u, us', rfl, ⟨rfl, _⟩, ru⟩ := rp
    cases (show us' = [] from ru)
    have eq1 : ruleD (inB kvs) (.tup [.str "name", .str y]) = if inB kvs y = true then .str "name" else .non := rfl
    rw [eq1] at q
    refine ⟨(by show 2 ≤ sizeLine; decide), fun p1 hp1 => ?_⟩
    have s1 := same_new hp1 (.lst [V.str "name", .non])
    refine ⟨_, rfl, a, _, _, .str y, rfl, rfl, SqT.of (s1 _ _ ha), atI_nat (j := 1) rfl, _, rfl, b, _, rfl, DGet.k (k := Sum.inr y) (s1 _ _ hb), .inr ⟨_, rfl, ?_⟩⟩
    have qq := q _ s1
    show rIxL _ (.ref p1) (V.int (if (!inB kvs y) = true then 1 else 0)) _ _
    cases hin : inB kvs y with
    | true =>
      rw [hin] at qq
      exact ⟨p1, _, _, .str "name", rfl, rfl, SqL.of upd_same, rfl, qq⟩
    | false =>
      rw [hin] at qq
      exact ⟨p1, _, _, .non, rfl, rfl, SqL.of upd_same, rfl, qq⟩
  have nn : x ≠ "name" := fun z => c (by rw [z]; decide +kernel)
  have two : 2 ≤ sizeLine := by decide
  intro p1 hp1
  have s1 := same_new hp1 (.dK [])
  refine ⟨two, fun q1 e1 => ⟨two, fun q2 e2 => ⟨two, fun q3 e3 => ⟨two, fun q4 e4 => ?_⟩⟩⟩⟩
  have t1 := same_new e1 (.tup [V.int 1, .str "fun"])
  have t2 := same_new e2 (.tup [V.int 3, .str "like"])
  have t3 := same_new e3 (.tup [V.int 1, .str "pair"])
  have t4 := same_new e4 (.tup [V.int 1, .str "pair"])
  have hp : (upd H p1 (.dK [])) p1 = some (.dK []) := upd_same
  refine ⟨t4 _ _ (t3 _ _ (t2 _ _ (t1 _ _ hp))), [(Sum.inr "app", .ref q1), (Sum.inr "carry", .ref q2), (Sum.inr "first", .ref q3), (Sum.inr "second", .ref q4)], rfl, (by show 4 ≤ 15; decide), ?_⟩
  rw [merge4]
  have s5 : Same H (upd (upd (upd (upd (upd (upd H p1 (.dK [])) q1 (.tup [V.int 1, .str "fun"])) q2 (.tup [V.int 3, .str "like"])) q3 (.tup [V.int 1, .str "pair"])) q4 (.tup [V.int 1, .str "pair"])) p1 (.dK [(Sum.inr "app", .ref q1), (Sum.inr "carry", .ref q2), (Sum.inr "first", .ref q3), (Sum.inr "second", .ref q4)])) := same_upd (s1.trans (t1.trans (t2.trans (t3.trans t4)))) hp1
  have n1 : q1 ≠ p1 := fun z => by rw [z, hp] at e1; cases e1
  have n2 : q2 ≠ p1 := fun z => by rw [z, t1 _ _ hp] at e2; cases e2
  have n3 : q3 ≠ p1 := fun z => by rw [z, t2 _ _ (t1 _ _ hp)] at e3; cases e3
  have n4 : q4 ≠ p1 := fun z => by rw [z, t3 _ _ (t2 _ _ (t1 _ _ hp))] at e4; cases e4
  have h5 : (upd (upd (upd (upd (upd (upd H p1 (.dK [])) q1 (.tup [V.int 1, .str "fun"])) q2 (.tup [V.int 3, .str "like"])) q3 (.tup [V.int 1, .str "pair"])) q4 (.tup [V.int 1, .str "pair"])) p1 (.dK [(Sum.inr "app", .ref q1), (Sum.inr "carry", .ref q2), (Sum.inr "first", .ref q3), (Sum.inr "second", .ref q4)])) p1 = some (.dK [(Sum.inr "app", .ref q1), (Sum.inr "carry", .ref q2), (Sum.inr "first", .ref q3), (Sum.inr "second", .ref q4)]) := upd_same
  have f1 : (upd (upd (upd (upd (upd (upd H p1 (.dK [])) q1 (.tup [V.int 1, .str "fun"])) q2 (.tup [V.int 3, .str "like"])) q3 (.tup [V.int 1, .str "pair"])) q4 (.tup [V.int 1, .str "pair"])) p1 (.dK [(Sum.inr "app", .ref q1), (Sum.inr "carry", .ref q2), (Sum.inr "first", .ref q3), (Sum.inr "second", .ref q4)])) q1 = some (.tup [V.int 1, .str "fun"]) := by rw [upd_ne n1]; exact t4 _ _ (t3 _ _ (t2 _ _ upd_same))
  have f2 : (upd (upd (upd (upd (upd (upd H p1 (.dK [])) q1 (.tup [V.int 1, .str "fun"])) q2 (.tup [V.int 3, .str "like"])) q3 (.tup [V.int 1, .str "pair"])) q4 (.tup [V.int 1, .str "pair"])) p1 (.dK [(Sum.inr "app", .ref q1), (Sum.inr "carry", .ref q2), (Sum.inr "first", .ref q3), (Sum.inr "second", .ref q4)])) q2 = some (.tup [V.int 3, .str "like"]) := by rw [upd_ne n2]; exact t4 _ _ (t3 _ _ upd_same)
  have f3 : (upd (upd (upd (upd (upd (upd H p1 (.dK [])) q1 (.tup [V.int 1, .str "fun"])) q2 (.tup [V.int 3, .str "like"])) q3 (.tup [V.int 1, .str "pair"])) q4 (.tup [V.int 1, .str "pair"])) p1 (.dK [(Sum.inr "app", .ref q1), (Sum.inr "carry", .ref q2), (Sum.inr "first", .ref q3), (Sum.inr "second", .ref q4)])) q3 = some (.tup [V.int 1, .str "pair"]) := by rw [upd_ne n3]; exact t4 _ _ upd_same
  have f4 : (upd (upd (upd (upd (upd (upd H p1 (.dK [])) q1 (.tup [V.int 1, .str "fun"])) q2 (.tup [V.int 3, .str "like"])) q3 (.tup [V.int 1, .str "pair"])) q4 (.tup [V.int 1, .str "pair"])) p1 (.dK [(Sum.inr "app", .ref q1), (Sum.inr "carry", .ref q2), (Sum.inr "first", .ref q3), (Sum.inr "second", .ref q4)])) q4 = some (.tup [V.int 1, .str "pair"]) := by rw [upd_ne n4]; exact upd_same
  generalize upd (upd (upd (upd (upd (upd H p1 (.dK [])) q1 (.tup [V.int 1, .str "fun"])) q2 (.tup [V.int 3, .str "like"])) q3 (.tup [V.int 1, .str "pair"])) q4 (.tup [V.int 1, .str "pair"])) p1 (.dK [(Sum.inr "app", .ref q1), (Sum.inr "carry", .ref q2), (Sum.inr "first", .ref q3), (Sum.inr "second", .ref q4)]) = H5 at s5 h5 f1 f2 f3 f4 ⊢
  clear t1 t2 t3 t4 s1 hp hp1 e1 e2 e3 e4
  have ha5 := s5 _ _ ha
  have rp5 := rp.mono s5
  -- one of the four
  have key : (valV [((Sum.inr "app" : Key), V.ref q1), (Sum.inr "carry", .ref q2), (Sum.inr "first", .ref q3), (Sum.inr "second", .ref q4)] (Sum.inr x : Key) = none ∧ ruleW (inB kvs) x ps = (if x = "rec" then (if hdD ((ps[3]?).getD .non) = "zero" then .str "zero" else if hdD ((ps[3]?).getD .non) = "next" then .str "next" else .non) else .non)) ∨
      ∃ (qq : Addr) (j : Nat) (y z s' : Str), valV [((Sum.inr "app" : Key), V.ref q1), (Sum.inr "carry", .ref q2), (Sum.inr "first", .ref q3), (Sum.inr "second", .ref q4)] (Sum.inr x : Key) = some (.ref qq) ∧ H5 qq = some (.tup [.int ((j + 1 : Nat) : Int), .str y]) ∧ shapeV x = .str s' ∧ s'.cps.toList[j]? = some 116 ∧
        valV [((Sum.inr "app" : Key), V.str "fun"), (Sum.inr "carry", .str "like"), (Sum.inr "first", .str "first"), (Sum.inr "second", .str "second")] (Sum.inr x : Key) = some (.str z) ∧ ruleW (inB kvs) x ps = (if hdD ((ps[j]?).getD .non) = y then .str z else .non) ∧ x ≠ "rec" := by
    rw [val4, val4]
    unfold ruleW
    rw [if_neg nn]
    by_cases h1 : x = "app"
    · subst h1
      exact .inr ⟨q1, 0, "fun", "fun", "tt", by simp, f1, by decide +kernel, by decide +kernel, by simp, by simp, by decide +kernel⟩
    by_cases h2 : x = "carry"
    · subst h2
      exact .inr ⟨q2, 2, "like", "like", "ktt", by simp [h1], f2, by decide +kernel, by decide +kernel, by simp [h1], by simp [h1], by decide +kernel⟩
    by_cases h3 : x = "first"
    · subst h3
      exact .inr ⟨q3, 0, "pair", "first", "t", by simp [h1, h2], f3, by decide +kernel, by decide +kernel, by simp [h1, h2], by simp [h1, h2], by decide +kernel⟩
    by_cases h4 : x = "second"
    · subst h4
      exact .inr ⟨q4, 0, "pair", "second", "t", by simp [h1, h2, h3], f4, by decide +kernel, by decide +kernel, by simp [h1, h2, h3], by simp [h1, h2, h3], by decide +kernel⟩
    · exact .inl ⟨by simp [h1, h2, h3, h4], by simp [h1, h2, h3, h4]⟩
  refine ⟨fun σ' H' => σ' = [some (.ref a), some (.ref b), some (.str x), some (.ref p1)] ∧ H' = H5 ∧ ruleW (inB kvs) x ps = (if x = "rec" then (if hdD ((ps[3]?).getD .non) = "zero" then .str "zero" else if hdD ((ps[3]?).getD .non) = "next" then .str "next" else .non) else .non), ?_, ?_⟩
  · refine ⟨_, rfl, _, rfl, p1, _, rfl, DGet.k (k := Sum.inr x) h5, _, rfl, ?_⟩
    rcases key with ⟨kn, kr⟩ | ⟨qq, j, y, z, s', kv, kq, ks, ki, kz, kr, kx⟩
    · rw [kn]
      exact iteF (iteF ⟨rfl, rfl, kr⟩)
    rw [kv]
    obtain ⟨c0, ws, hat, hc0⟩ := part_rep wfk rp5 ks ki
    refine iteT ⟨_, rfl, _, rfl, _, rfl, p1, _, rfl, kv ▸ DGet.k (k := Sum.inr x) h5, qq, _, _, _, rfl, rfl, SqT.of kq, atI_nat (j := 0) rfl, a, _, _, .ref c0, rfl, rfl, SqT.of ha5, hat, c0, _, _, _, rfl, rfl, SqT.of hc0, atI_nat (j := 0) rfl, _, rfl, _, rfl, p1, _, rfl, kv ▸ DGet.k (k := Sum.inr x) h5, qq, _, _, _, rfl, rfl, SqT.of kq, atI_nat (j := 1) rfl, rfl, _, rfl, ?_⟩
    refine ite2 (fun ch => ?_) (fun ch => ?_)
    · have ch : V.str (hdD ((ps[j]?).getD .non)) = V.str y := of_decide_eq_true ch
      injection ch with ch
      intro p6 hp6
      have s6 := same_new hp6 (.dK [((Sum.inr "app" : Key), V.str "fun"), (Sum.inr "carry", .str "like"), (Sum.inr "first", .str "first"), (Sum.inr "second", .str "second")])
      refine ⟨upd_same, [((Sum.inr "app" : Key), V.str "fun"), (Sum.inr "carry", .str "like"), (Sum.inr "first", .str "first"), (Sum.inr "second", .str "second")], rfl, (by show 4 ≤ 15; decide), ?_⟩
      rw [merge4, upd_upd]
      refine ⟨_, rfl, p6, .str z, rfl, kz ▸ DGet.k (k := Sum.inr x) upd_same, ?_⟩
      have qq2 := q _ (s5.trans s6)
      have er : ruleD (inB kvs) (.tup (.str x :: ps)) = .str z := by
        show ruleW (inB kvs) x ps = _
        rw [kr, if_pos ch]
      rw [er] at qq2
      exact qq2
    · have ch : ¬ hdD ((ps[j]?).getD .non) = y := fun z => ch (by rw [z]; exact decide_eq_true rfl)
      refine ⟨rfl, rfl, ?_⟩
      rw [kr, if_neg ch, if_neg kx]
  · rintro σ' H' ⟨rfl, rfl, kr⟩
    refine ⟨_, rfl, rfl, _, rfl, ?_⟩
    refine ite2 (fun cr => ?_) (fun cr => ?_)
    · have cr : V.str x = V.str "rec" := of_decide_eq_true cr
      cases cr
      rw [if_pos rfl] at kr
      obtain ⟨c0, ws, hat, hc0⟩ := part_rep (s := "kttt") (i := 3) wfk rp5 (by decide +kernel) (by decide +kernel)
      refine ⟨_, rfl, a, _, _, .ref c0, rfl, rfl, SqT.of ha5, hat, c0, _, _, _, rfl, rfl, SqT.of hc0, atI_nat (j := 0) rfl, (by show 2 ≤ sizeLine; decide), fun p6 hp6 => ⟨p6, (["zero", "next"] : List Str).map V.str, rfl, .inr (SqT.of upd_same), rfl, rfl, _, rfl, ?_⟩⟩
      have s6 := same_new hp6 (.tup [V.str "zero", .str "next"])
      show if (inV (.str (hdD ((ps[3]?).getD .non))) ((["zero", "next"] : List Str).map V.str)) = true then _ else _
      rw [inV_strs]
      have qq2 := q _ (s5.trans s6)
      have er : ruleD (inB kvs) (.tup (.str "rec" :: ps)) = _ := kr
      rw [er] at qq2
      refine ite2 (fun ci => ?_) (fun ci => ?_)
      · have ci : hdD ((ps[3]?).getD .non) ∈ (["zero", "next"] : List Str) := of_decide_eq_true ci
        refine ⟨_, rfl, a, _, _, .ref c0, rfl, rfl, SqT.of (s6 _ _ ha5), hat, c0, _, _, _, rfl, rfl, SqT.of (s6 _ _ hc0), atI_nat (j := 0) rfl, ?_⟩
        simp only [List.mem_cons, List.not_mem_nil, or_false] at ci
        rcases ci with ci | ci
        · rw [ci, if_pos rfl] at qq2
          rw [ci]
          exact qq2
        · rw [ci, if_neg (by decide +kernel), if_pos rfl] at qq2
          rw [ci]
          exact qq2
      · have ci : ¬ hdD ((ps[3]?).getD .non) ∈ (["zero", "next"] : List Str) := of_decide_eq_false (Bool.eq_false_iff.mpr ci)
        simp only [List.mem_cons, List.not_mem_nil, or_false, not_or] at ci
        rw [if_neg ci.1, if_neg ci.2] at qq2
        exact qq2
    · have cr : x ≠ "rec" := fun z => cr (by rw [z]; decide +kernel)
      rw [if_neg cr] at kr
      have qq2 := q _ s5
      have er : ruleD (inB kvs) (.tup (.str x :: ps)) = _ := kr
      rw [er] at qq2
      exact iteF qq2
end K20
end
section
set_option maxHeartbeats 2000000
namespace K20
open PySem L2 L3 KM PyProof.Rows
seal L2.PE L2.PS L2.PSs L2.PT L2.PW L2.PA L2.PG L2.PGs L2.PI L2.PC L2.PO L2.PPs L2.PK L3.PIf
variable {P : Program} {w : World} {K : PySem.W.Frag} {mg : Str → Option Value} {base : Heap} {t : Adr}
def Rul (K : PySem.W.Frag) (r : Addr) : Prop := ∃ a1 a2 a3 a4 a5 b1 b2 b3 b4 b5 b6 : Addr, TabK K r [("app", .ref a1), ("rec", .ref a2), ("carry", .ref a3), ("first", .ref a4), ("second", .ref a5)] ∧
  SqK K a1 [.ref b1] ∧ SqK K b1 [.int 1, .str "fun", .str "fun"] ∧ SqK K a2 [.ref b2, .ref b3] ∧ SqK K b2 [.int 4, .str "zero", .str "zero"] ∧ SqK K b3 [.int 4, .str "next", .str "next"] ∧
  SqK K a3 [.ref b4] ∧ SqK K b4 [.int 3, .str "like", .str "like"] ∧ SqK K a4 [.ref b5] ∧ SqK K b5 [.int 1, .str "pair", .str "first"] ∧ SqK K a5 [.ref b6] ∧ SqK K b6 [.int 1, .str "pair", .str "second"]
theorem dat5 (v1 v2 v3 v4 v5 : V) (x : Str) : KTD.datumAt x [(("app" : Str), v1), ("rec", v2), ("carry", v3), ("first", v4), ("second", v5)] = if x = "app" then some v1 else if x = "rec" then some v2 else if x = "carry" then some v3 else if x = "first" then some v4 else if x = "second" then some v5 else none := by
  simp only [KTD.datumAt, decide_eq_true_eq]
abbrev Rw := Nat × Str × Str
def hitB (ps : List D) (r : Rw) : Bool := decide (hdD ((ps[r.1]?).getD .non) = r.2.1)
def firstV (ps : List D) : List Rw → V
  | [] => .non
  | r :: rs => if hitB ps r = true then .str r.2.2 else firstV ps rs
theorem firstV_drop {ps : List D} : ∀ {rows : List Rw} {i : Nat}, (∀ r ∈ rows.take i, hitB ps r = false) → firstV ps rows = firstV ps (rows.drop i)
  | rows, 0, _ => rfl
  | [], i + 1, _ => rfl
  | r :: rs, i + 1, h => by
    have h0 := h r (by simp)
    rw [firstV, if_neg (by rw [h0]; decide), List.drop_succ_cons]
    exact firstV_drop fun r hr => h r (by rw [List.take_succ_cons]; exact List.mem_cons_of_mem _ hr)
theorem sc_rule_of : FnScope ["thing", "book", "part", "word", "rule"] ["thing", "book"] (defScope s_rule_of) := ⟨rfl, rfl, rfl, by decide +kernel, rfl, by decide +kernel, by decide +kernel⟩
theorem c_rule_of (D : Df K mg "rule_of" s_rule_of ["thing", "book"]) (M : Mg mg t) (T : Rul K t.RULES) : Cal P w K mg CX0 "rule_of" (1) ["thing", "book"] spRule := by
  refine D.ok sc_rule_of (fun vs H Q E h => ?_) (fun base f cdv A outer s H vs Q E hr h => ?_)
  · obtain ⟨d, v, b, kvs, rfl, _⟩ := h
    rfl
  obtain ⟨d, v, b, kvs, rfl, r, wf, hb, q⟩ := h
  have hu := hu_of hr
  obtain ⟨x, ps, k, rfl, wfk, hps⟩ := wf_ps wf
  obtain ⟨a, us0, rfl, ha, v0, us, rfl, ⟨rfl, hx⟩, rp⟩ := id r
  have ea : atI (V.str x :: us) 0 = some (.str x) := atI_nat (j := 0) rfl
  obtain ⟨a1, a2, a3, a4, a5, b1, b2, b3, b4, b5, b6, TT, s1, s2, s3, s4, s5, s6, s7, s8, s9, s10, s11⟩ := T
  refine ⟨_, (pss_cons (ps_if (pt_cmpR op_eq (pe_ix ix_tup (pv 0) pe_int (fun _ _ => rfl)) pe_str (nomark _)) (pss_one (ps_ret (pe_ifExp (pt_cmp (pc_din hu (pe_ix ix_tup (pv 0) pe_int (fun _ _ => rfl)) (pv 1))) pe_str pe_non))) pss_nil)
      (pss_cons (ps_for PassesOwn.never rfl (pi_tup (pe_tget2 (pe_gref M.g_RULES rfl) (pe_ix ix_tup (pv 0) pe_int (fun _ _ => rfl)) (pe_tup pa_nil) ⟨rfl, rfl, rfl, rfl⟩)) (pg_tup (n := 3) rfl (pgs_cons (pg_name (i := 2) sc_rule_of.nd rfl (by first | exact Or.inl rfl | exact Or.inr rfl)) (pgs_cons (pg_name (i := 3) sc_rule_of.nd rfl (by first | exact Or.inl rfl | exact Or.inr rfl)) (pgs_cons (pg_name (i := 4) sc_rule_of.nd rfl (by first | exact Or.inl rfl | exact Or.inr rfl)) pgs_nil)))) (pss_one (ps_if (pt_cmpR op_eq (pe_ix ix_tup (pe_ix ix_tup (pv 0) (pv 2) (fun _ _ => rfl)) pe_int (fun _ _ => rfl)) (pv 3) (nomark _)) (pss_one (ps_ret (pv 4))) pss_nil)))
      (pss_one (ps_ret pe_non)))), ?_⟩
  refine ⟨_, rfl, a, _, _, _, rfl, rfl, SqT.of ha, ea, rfl, _, rfl, ?_⟩
  refine ite2 (fun c => ?_) (fun c => ?_)
  · have c : V.str x = V.str "name" := of_decide_eq_true c
    cases c
    obtain ⟨y, rfl⟩ := name_part wfk
    obtain ⟨u, us', rfl, ⟨rfl, _⟩, ru⟩ := rp
    cases (show us' = [] from ru)
    have eq1 : ruleD (inB kvs) (.tup [.str "name", .str y]) = if inB kvs y = true then .str "name" else .non := rfl
    rw [eq1] at q
    have qq := q H (Same.refl H)
    refine ⟨_, rfl, a, _, _, .str y, rfl, rfl, SqT.of ha, atI_nat (j := 1) rfl, _, rfl, b, _, rfl, DGet.k (k := Sum.inr y) hb, _, rfl, ?_⟩
    show if inB kvs y = true then _ else _
    cases hin : inB kvs y with
    | true =>
      rw [hin] at qq
      exact qq
    | false =>
      rw [hin] at qq
      exact qq
  have nn : x ≠ "name" := fun z => c (by rw [z]; decide +kernel)
  refine ⟨t.RULES, _, rfl, TT, _, rfl, a, _, _, _, rfl, rfl, SqT.of ha, ea, (by show 0 ≤ sizeLine; decide), fun p0 hp0 => ⟨x, rfl, ?_⟩⟩
  have t0 := same_new hp0 (.tup [])
  have h0 : (upd H p0 (.tup [])) p0 = some (.tup []) := upd_same
  have rp0 := rp.mono t0
  have ha0 := t0 _ _ ha
  generalize upd H p0 (.tup []) = H0 at t0 h0 rp0 ha0 ⊢
  rw [dat5]
  have key : ∃ (c : Addr) (rows : List Rw) (bs : List V), (if x = "app" then some (V.ref a1) else if x = "rec" then some (.ref a2) else if x = "carry" then some (.ref a3) else if x = "first" then some (.ref a4) else if x = "second" then some (.ref a5) else none).getD (.ref p0) = .ref c ∧ (∀ H1, Same H0 H1 → SqT K H1 c bs) ∧ bs.length = rows.length ∧
      (∀ (i : Nat) (r : Rw), rows[i]? = some r → ∃ b' : Addr, bs[i]? = some (V.ref b') ∧ SqK K b' [.int ((r.1 + 1 : Nat) : Int), .str r.2.1, .str r.2.2]) ∧ (∀ r ∈ rows, ∃ s', shapeV x = .str s' ∧ s'.cps.toList[r.1]? = some 116) ∧ ruleW (inB kvs) x ps = firstV ps rows := by
    have one : ∀ (r : Rw) (b' : Addr), SqK K b' [.int ((r.1 + 1 : Nat) : Int), .str r.2.1, .str r.2.2] → ∀ (i : Nat) (r' : Rw), [r][i]? = some r' → ∃ b'', [V.ref b'][i]? = some (.ref b'') ∧ SqK K b'' [.int ((r'.1 + 1 : Nat) : Int), .str r'.2.1, .str r'.2.2] := fun r b' h i r' e => by
      match i, e with
      | 0, e => cases e; exact ⟨b', rfl, h⟩
      | i + 1, e => simp at e
    unfold ruleW
    rw [if_neg nn]
    by_cases e1 : x = "app"
    · subst e1
      refine ⟨a1, [(0, "fun", "fun")], [.ref b1], by simp, fun H1 _ => .inr s1, rfl, one _ _ s2, fun r hr => ?_, ?_⟩
      · rw [List.mem_singleton.mp hr]; exact ⟨"tt", by decide +kernel, by decide +kernel⟩
      · simp [firstV, hitB]
    by_cases e2 : x = "rec"
    · subst e2
      refine ⟨a2, [(3, "zero", "zero"), (3, "next", "next")], [.ref b2, .ref b3], by simp [e1], fun H1 _ => .inr s3, rfl, fun i r e => ?_, fun r hr => ?_, ?_⟩
      · match i, e with
        | 0, e => cases e; exact ⟨b2, rfl, s4⟩
        | 1, e => cases e; exact ⟨b3, rfl, s5⟩
        | i + 2, e => simp at e
      · have hr1 : r.1 = 3 := by
          simp only [List.mem_cons, List.not_mem_nil, or_false] at hr
          rcases hr with rfl | rfl <;> rfl
        rw [hr1]
        exact ⟨"kttt", by decide +kernel, by decide +kernel⟩
      · have n1 : (Str.ofString "rec") ≠ Str.ofString "carry" := by decide +kernel
        have n2 : (Str.ofString "rec") ≠ Str.ofString "first" := by decide +kernel
        have n3 : (Str.ofString "rec") ≠ Str.ofString "second" := by decide +kernel
        rw [if_neg e1, if_neg n1, if_neg n2, if_neg n3, if_pos rfl]
        simp [firstV, hitB]
    by_cases e3 : x = "carry"
    · subst e3
      refine ⟨a3, [(2, "like", "like")], [.ref b4], by simp [e1, e2], fun H1 _ => .inr s6, rfl, one _ _ s7, fun r hr => ?_, ?_⟩
      · rw [List.mem_singleton.mp hr]; exact ⟨"ktt", by decide +kernel, by decide +kernel⟩
      · simp [firstV, hitB, e1]
    by_cases e4 : x = "first"
    · subst e4
      refine ⟨a4, [(0, "pair", "first")], [.ref b5], by simp [e1, e2, e3], fun H1 _ => .inr s8, rfl, one _ _ s9, fun r hr => ?_, ?_⟩
      · rw [List.mem_singleton.mp hr]; exact ⟨"t", by decide +kernel, by decide +kernel⟩
      · simp [firstV, hitB, e1, e3]
    by_cases e5 : x = "second"
    · subst e5
      refine ⟨a5, [(0, "pair", "second")], [.ref b6], by simp [e1, e2, e3, e4], fun H1 _ => .inr s10, rfl, one _ _ s11, fun r hr => ?_, ?_⟩
      · rw [List.mem_singleton.mp hr]; exact ⟨"t", by decide +kernel, by decide +kernel⟩
      · simp [firstV, hitB, e1, e3, e4]
    · exact ⟨p0, [], [], by simp [e1, e2, e3, e4, e5], fun H1 hs => SqT.of (hs _ _ h0), rfl, (fun i r e => by simp at e), (fun r hr => absurd hr (by simp)), (by simp [firstV, e1, e2, e3, e4, e5])⟩
  obtain ⟨c, rows, bs, ec, hc, hl, hrow, hshp, hrule⟩ := key
  rw [ec]
  refine ⟨c, rfl, ⟨bs, hc H0 (Same.refl _)⟩, ?_⟩
  refine for_by bs.length (fun i σ' H' => ∃ (pv wv rv : Option V), σ' = [some (.ref a), some (.ref b), pv, wv, rv] ∧ (∀ r ∈ rows.take i, hitB ps r = false) ∧ H' = H0) ?_ ?_ ?_
  · exact ⟨none, none, none, rfl, fun r hr => by simp at hr, rfl⟩
  · rintro i σ' H1 hi ⟨pv', wv, rv, rfl, hno, rfl⟩
    obtain ⟨r', hr'⟩ : ∃ r, rows[i]? = some r := ⟨_, List.getElem?_eq_getElem (by omega)⟩
    obtain ⟨b', hb', sb'⟩ := hrow i r' hr'
    refine ⟨⟨bs, _, hc _ (Same.refl _), hb'⟩, ?_⟩
    rintro x' H2 ⟨rfl, hy⟩
    have hy := hy bs (hc _ (Same.refl _))
    rw [hb'] at hy
    cases hy
    obtain ⟨s', ks, ki⟩ := hshp r' (List.mem_of_getElem? hr')
    obtain ⟨c0, ws, hat, hc0⟩ := part_rep wfk rp0 ks ki
    refine ⟨b', _, rfl, .inr sb', rfl, _, _, rfl, _, _, rfl, _, _, rfl, rfl, ?_⟩
    refine ⟨_, rfl, _, rfl, a, _, _, .ref c0, rfl, rfl, SqT.of ha0, hat, c0, _, _, _, rfl, rfl, SqT.of hc0, atI_nat (j := 0) rfl, _, rfl, rfl, _, rfl, ?_⟩
    have hd : rows.drop i = r' :: rows.drop (i + 1) := by
      obtain ⟨h, rfl⟩ := List.getElem?_eq_some_iff.mp hr'
      exact List.drop_eq_getElem_cons h
    refine ite2 (fun ch => ?_) (fun ch => ?_)
    · have ch : V.str (hdD ((ps[r'.1]?).getD .non)) = V.str r'.2.1 := of_decide_eq_true ch
      injection ch with ch
      have hit : hitB ps r' = true := decide_eq_true ch
      refine ⟨_, rfl, ?_⟩
      have er : ruleD (inB kvs) (.tup (.str x :: ps)) = .str r'.2.2 := by
        show ruleW (inB kvs) x ps = _
        rw [hrule, firstV_drop hno, hd, firstV, if_pos hit]
      have qq := q _ t0
      rw [er] at qq
      exact qq
    · have hit : hitB ps r' = false := decide_eq_false fun z => ch (by rw [z]; exact decide_eq_true rfl)
      refine ⟨_, _, _, rfl, fun r hr => ?_, rfl⟩
      rw [List.take_add_one, hr'] at hr
      rcases List.mem_append.mp hr with hr | hr
      · exact hno r hr
      · have : r = r' := by simpa using hr
        rw [this]
        exact hit
  · rintro σ' H1 ⟨pv', wv, rv, rfl, hno, rfl⟩
    refine ⟨⟨bs, hc _ (Same.refl _), Nat.le_refl _⟩, ?_⟩
    have er : ruleD (inB kvs) (.tup (.str x :: ps)) = .non := by
      show ruleW (inB kvs) x ps = _
      rw [hrule, firstV_drop hno, hl, List.drop_length, firstV]
    have qq := q _ t0
    rw [er] at qq
    exact qq
end K20
end
section
set_option maxHeartbeats 2000000
namespace K20
open PySem L2 L3 KM PyProof.Rows
seal L2.PE L2.PS L2.PSs L2.PT L2.PW L2.PA L2.PG L2.PGs L2.PI L2.PC L2.PO L2.PPs L2.PK L3.PIf
variable {P : Program} {w : World} {K : PySem.W.Frag} {mg : Str → Option Value} {base : Heap} {t : Adr}
abbrev Rp := List Nat × D
mutual
def rowsD (pl : List Nat) : D → List Rp
  | .tup (.str x :: ps) => (pl, .tup (.str x :: ps)) :: (if leafW x = true then [] else rowsL pl 0 ps)
  | _ => []
def rowsL (pl : List Nat) : Nat → List D → List Rp
  | _, [] => []
  | i, d :: ds => rowsD (pl ++ [i]) d ++ rowsL pl (i + 1) ds
end
theorem rowsD_eq (pl : List Nat) (x : Str) (ps : List D) : rowsD pl (.tup (.str x :: ps)) = (pl, .tup (.str x :: ps)) :: rowsL pl 0 (kidsD x ps) := by
  rw [rowsD]
  unfold kidsD
  split
  · rw [rowsL]
  · rfl
theorem rowsL_range (pl : List Nat) : ∀ (ds : List D) (j : Nat), rowsL pl j ds = ((List.range ds.length).map fun i => ((pl ++ [j + i], (ds[i]?).getD .non) : Rp)).flatMap fun r => rowsD r.1 r.2
  | [], j => by rw [rowsL]; rfl
  | d :: ds, j => by
    rw [rowsL, rowsL_range pl ds (j + 1), List.length_cons, List.range_succ_eq_map, List.map_cons, List.flatMap_cons, List.map_map]
    congr 1
    congr 1
    apply List.map_congr_left
    intro i _
    show ((pl ++ [j + 1 + i], (ds[i]?).getD .non) : Rp) = (pl ++ [j + (i + 1)], _)
    rw [show j + 1 + i = j + (i + 1) by omega]
    rfl
theorem rev_map {α : Type} (g : Nat → α) (n : Nat) : ((List.range n).map fun t => g (n - 1 - t)).reverse = (List.range n).map g := by
  apply List.ext_getElem
  · simp
  · intro i h1 h2
    have hi : i < n := by simpa using h2
    rw [List.getElem_reverse, List.getElem_map, List.getElem_map, List.getElem_range, List.getElem_range]
    simp only [List.length_map, List.length_range]
    congr 1
    omega
mutual
theorem rowsD_len : ∀ (pl : List Nat) (d : D), (rowsD pl d).length ≤ knots d
  | pl, .tup (.str x :: ps) => by
    rw [rowsD, List.length_cons]
    have e : knots (.tup (.str x :: ps)) = 1 + knotsL ps := by simp [knots, knotsL]
    rw [e]
    split
    · simp
    · have := rowsL_len pl 0 ps
      omega
  | pl, .tup [] => by simp [rowsD]
  | pl, .tup (.non :: _) => by simp [rowsD]
  | pl, .tup (.bl _ :: _) => by simp [rowsD]
  | pl, .tup (.int _ :: _) => by simp [rowsD]
  | pl, .tup (.tup _ :: _) => by simp [rowsD]
  | pl, .non => by simp [rowsD]
  | pl, .bl _ => by simp [rowsD]
  | pl, .int _ => by simp [rowsD]
  | pl, .str _ => by simp [rowsD]
theorem rowsL_len : ∀ (pl : List Nat) (j : Nat) (ds : List D), (rowsL pl j ds).length ≤ knotsL ds
  | pl, j, [] => by simp [rowsL]
  | pl, j, d :: ds => by
    rw [rowsL, List.length_append]
    have h1 := rowsD_len (pl ++ [j]) d
    have h2 := rowsL_len pl (j + 1) ds
    have e : knotsL (d :: ds) = knots d + knotsL ds := by simp [knotsL]
    omega
end
def vD : V → D
  | .str x => .str x
  | _ => .non
def stD (r : Rp) : D := .tup [plD r.1, r.2]
def rowD (inb : Str → Bool) (r : Rp) : D := .tup [plD r.1, r.2, vD (ruleD inb r.2)]
theorem rule_rep {H : Hp} {inb : Str → Bool} {d : D} (h : Wf d) : Rep H (vD (ruleD inb d)) (ruleD inb d) := by
  obtain ⟨k, h⟩ := h
  obtain ⟨x, ps, rfl⟩ := wf_form h
  show Rep H (vD (ruleW inb x ps)) (ruleW inb x ps)
  have st : ∀ y : Str, y.length ≤ 1000 → Rep H (vD (.str y)) (.str y) := fun y hy => ⟨rfl, hy⟩
  have nn : Rep H (vD .non) .non := rfl
  unfold ruleW nameB
  repeat' split
  all_goals first | exact nn | exact st _ (by decide +kernel)
theorem reps_snoc {H : Hp} : ∀ {ds : List D} {d : D} {ws : List V}, Reps H (ds ++ [d]) ws → ∃ ws' y, ws = ws' ++ [y] ∧ Reps H ds ws' ∧ Rep H d y
  | [], d, _, ⟨v, r, e, q, t⟩ => by
    subst e
    cases (show r = [] from t)
    exact ⟨[], v, rfl, rfl, q⟩
  | a :: ds, d, _, ⟨v, r, e, q, t⟩ => by
    subst e
    obtain ⟨ws', y, rfl, h1, h2⟩ := reps_snoc t
    exact ⟨v :: ws', y, rfl, ⟨v, ws', rfl, q, h1⟩, h2⟩
def spRows : Sp := fun vs H Q _ => ∃ (d : D) (v : V) (b : Addr) (kvs : List (Key × V)), vs = [v, .ref b] ∧ Rep H d v ∧ Wf d ∧ depth d ≤ 60 ∧ knots d ≤ 1000000 ∧ H b = some (.dK kvs) ∧
  ∀ (f : Addr) (fs : List V) (H' : Hp), H f = none → Same H H' → H' f = some (.lst fs) → Reps H' ((rowsD [] d).map (rowD (inB kvs))) fs → Q (.ref f) H'
structure Wk (H H' : Hp) (d : D) (b pf pw : Addr) (inb : Str → Bool) (st fo : List Rp) (ws fs : List V) : Prop where
  hw : H' pw = some (.lst ws)
  hf : H' pf = some (.lst fs)
  rw_ : Reps H' (st.map stD) ws
  rf : Reps H' (fo.map (rowD inb)) fs
  all : fo ++ st.reverse.flatMap (fun r => rowsD r.1 r.2) = rowsD [] d
  ok : ∀ x ∈ st, Wf x.2 ∧ x.1.length + depth x.2 ≤ 60
  kn : (st.map fun r => knots r.2).sum ≤ 1000000
  sm : Same H H'
theorem sc_law_rows : FnScope ["_law_thing_here", "_law_book_here", "_law_found", "_law_waiting", "_law_place", "_law_here", "_law_kids_here", "_law_step", "_law_number_here"] ["_law_thing_here", "_law_book_here"] (defScope s_law_rows) := ⟨rfl, rfl, rfl, by decide +kernel, rfl, by decide +kernel, by decide +kernel⟩
theorem c_law_rows (D : Df K mg "_law_rows" s_law_rows ["_law_thing_here", "_law_book_here"]) (M : Mg mg t) (F_law_rule : Cal P w K mg CX0 "_law_rule" (1) ["_law_thing_here", "_law_book_here"] spRule) (F_law_kids : Cal P w K mg CX0 "_law_kids" (1) ["_law_thing_here"] spKids) : Cal P w K mg CX0 "_law_rows" (2) ["_law_thing_here", "_law_book_here"] spRows := by
  refine D.ok sc_law_rows (fun vs H Q E h => ?_) (fun base f cdv A outer s H vs Q E hr h => ?_)
  · obtain ⟨d, v, b, kvs, rfl, _⟩ := h
    rfl
  obtain ⟨d, v, b, kvs, rfl, r, wf, hdp, hkn, hb, q⟩ := h
  refine ⟨_, (pss_cons (ps_set (i := 2) sc_law_rows.nd rfl (by first | exact Or.inl rfl | exact Or.inr rfl) (pe_lst pa_nil))
      (pss_cons (ps_set (i := 3) sc_law_rows.nd rfl (by first | exact Or.inl rfl | exact Or.inr rfl) (pe_lst (pa_cons (pe_tup (pa_cons (pe_tup pa_nil) (pa_cons (pv 0) pa_nil))) pa_nil)))
      (pss_cons (ps_while PassesOwn.never (pt_cmpR op_gt (pe_callB call_len_seq rfl M.n_len bt_len (pa_cons (pv 3) pa_nil)) pe_int (nomark _)) (pss_cons (ps_asg (pe_bm0 PySem.F.plainAttrs_list PySem.F.slot_list_pop PySem.F.type_list_pop mt_pop (pv 3)) (pg_tup (n := 2) rfl (pgs_cons (pg_name (i := 4) sc_law_rows.nd rfl (by first | exact Or.inl rfl | exact Or.inr rfl)) (pgs_cons (pg_name (i := 5) sc_law_rows.nd rfl (by first | exact Or.inl rfl | exact Or.inr rfl)) pgs_nil))))
      (pss_cons (ps_expr (pe_bm PySem.F.plainAttrs_list PySem.F.slot_list_append PySem.F.type_list_append mt_append (pv 2) (pa_cons (pe_tup (pa_cons (pv 4) (pa_cons (pv 5) (pa_cons (pe_fn F_law_rule (hr.mono (by omega)) rfl pass0 (pa_cons (pv 5) (pa_cons (pv 1) pa_nil))) pa_nil)))) pa_nil)))
      (pss_cons (ps_set (i := 6) sc_law_rows.nd rfl (by first | exact Or.inl rfl | exact Or.inr rfl) (pe_fn F_law_kids (hr.mono (by omega)) rfl pass0 (pa_cons (pv 5) pa_nil)))
      (pss_one (ps_for PassesOwn.never rfl (pi_range1 rfl M.n_range (pa_cons (pe_callB call_len_seq rfl M.n_len bt_len (pa_cons (pv 6) pa_nil)) pa_nil)) (pg_name (i := 7) sc_law_rows.nd rfl (by first | exact Or.inl rfl | exact Or.inr rfl)) (pss_cons (ps_set (i := 8) sc_law_rows.nd rfl (by first | exact Or.inl rfl | exact Or.inr rfl) (pe_op op_sub (pe_op op_sub (pe_callB call_len_seq rfl M.n_len bt_len (pa_cons (pv 6) pa_nil)) pe_int) (pv 7)))
      (pss_one (ps_expr (pe_bm PySem.F.plainAttrs_list PySem.F.slot_list_append PySem.F.type_list_append mt_append (pv 3) (pa_cons (pe_tup (pa_cons (pe_op op_catU (pv 4) (pe_tup (pa_cons (pv 8) pa_nil))) (pa_cons (pe_ix ix_list (pv 6) (pv 8) (fun _ _ => rfl)) pa_nil))) pa_nil)))))))))))
      (pss_one (ps_ret (pv 2)))))), ?_⟩
  refine ⟨(by show 0 ≤ sizeLine; decide), fun pf hpf => ?_⟩
  have t1 := same_new hpf (.lst [])
  refine ⟨(by show 0 ≤ sizeLine; decide), fun q0 e0 => ⟨_, rfl, (by show 2 ≤ sizeLine; decide), fun q1 e1 => ⟨(by show 1 ≤ sizeLine; decide), fun pw hpw => ?_⟩⟩⟩
  have t2 := same_new e0 (.tup [])
  have t3 := same_new e1 (.tup [V.ref q0, v])
  have t4 := same_new hpw (.lst [V.ref q1])
  have npf : pf ≠ pw := ne_of_none (t3 _ _ (t2 _ _ (show (upd H pf (.lst [])) pf = some (.lst []) from upd_same))) hpw
  have hpw0 : H pw = none := t1.free (t2.free (t3.free hpw))
  have hq0 : (upd (upd (upd (upd H pf (.lst [])) q0 (.tup [])) q1 (.tup [V.ref q0, v])) pw (.lst [V.ref q1])) q0 = some (.tup []) := t4 _ _ (t3 _ _ upd_same)
  have hq1 : (upd (upd (upd (upd H pf (.lst [])) q0 (.tup [])) q1 (.tup [V.ref q0, v])) pw (.lst [V.ref q1])) q1 = some (.tup [V.ref q0, v]) := t4 _ _ upd_same
  have hf0 : (upd (upd (upd (upd H pf (.lst [])) q0 (.tup [])) q1 (.tup [V.ref q0, v])) pw (.lst [V.ref q1])) pf = some (.lst []) := t4 _ _ (t3 _ _ (t2 _ _ upd_same))
  have hw0 : (upd (upd (upd (upd H pf (.lst [])) q0 (.tup [])) q1 (.tup [V.ref q0, v])) pw (.lst [V.ref q1])) pw = some (.lst [V.ref q1]) := upd_same
  have sm0 := t1.trans (t2.trans (t3.trans t4))
  generalize upd (upd (upd (upd H pf (.lst [])) q0 (.tup [])) q1 (.tup [V.ref q0, v])) pw (.lst [V.ref q1]) = H0 at hq0 hq1 hf0 hw0 sm0 ⊢
  clear t1 t2 t3 t4 e0 e1 hpw
  refine ⟨fun n σ' H' => ∃ (st fo : List Rp) (ws fs : List V) (o4 o5 o6 o7 o8 : Option V), σ' = [some v, some (.ref b), some (.ref pf), some (.ref pw), o4, o5, o6, o7, o8] ∧ n = (st.map fun r => knots r.2).sum ∧ Wk H H' d b pf pw (inB kvs) st fo ws fs, ⟨_, [([], d)], [], [V.ref q1], [], none, none, none, none, none, rfl, rfl, ?_⟩, ?_⟩
  · refine ⟨hw0, hf0, ⟨_, _, rfl, ⟨q1, _, rfl, hq1, ⟨_, _, rfl, ⟨q0, [], rfl, hq0, rfl⟩, ⟨_, _, rfl, r.mono sm0, rfl⟩⟩⟩, rfl⟩, rfl, by simp, fun x hx => ?_, by simpa using hkn, sm0⟩
    rw [List.mem_singleton.mp hx]
    exact ⟨wf, by simpa using hdp⟩
  rintro n σ' H1 ⟨st, fo, ws, fs, o4, o5, o6, o7, o8, rfl, rfl, W⟩
  have lws := W.rw_.length
  rw [List.length_map] at lws
  refine ⟨_, rfl, pw, _, rfl, .inl (SqL.of W.hw), _, _, rfl, rfl, _, rfl, ?_⟩
  refine ite2 (fun c => ?_) (fun c => ?_)
  · have c : (0 : Int) < ((ws.length : Nat) : Int) := of_decide_eq_true c
    have hne : st ≠ [] := fun z => by subst z; have h0 : ws.length = 0 := lws; omega
    obtain ⟨st', ⟨pl, e⟩, rfl⟩ : ∃ st' x, st = st' ++ [x] := ⟨st.dropLast, st.getLast hne, (List.dropLast_concat_getLast hne).symm⟩
    have rws := W.rw_
    rw [List.map_append, List.map_singleton] at rws
    obtain ⟨ws', y, rfl, rws', ry⟩ := reps_snoc rws
    obtain ⟨wfe, dpe⟩ := W.ok (pl, e) (by simp)
    have wfe : Wf e := wfe
    have dpe : pl.length + depth e ≤ 60 := dpe
    obtain ⟨qy, _, rfl, hqy, ⟨plv, _, rfl, rpl, ⟨ev, _, rfl, re, rnil⟩⟩⟩ := ry
    cases (show _ = [] from rnil)
    have hkn' := W.kn
    rw [List.map_append, List.sum_append] at hkn'
    have hke : (List.map (fun r : Rp => knots r.2) [(pl, e)]).sum = knots e := by simp
    rw [hke] at hkn'
    have hall := W.all
    rw [List.reverse_append, List.reverse_singleton, List.singleton_append, List.flatMap_cons] at hall
    obtain ⟨x, ps, k, rfl, wfk, hps⟩ := wf_ps wfe
    have hkk := knots_kids wfk
    rw [hkk.1] at hkn'
    refine ⟨fun σ' H' => ∃ (st fo : List Rp) (ws fs : List V) (o4 o5 o6 o7 o8 : Option V), σ' = [some v, some (.ref b), some (.ref pf), some (.ref pw), o4, o5, o6, o7, o8] ∧ (st.map fun r => knots r.2).sum + 1 = ((st' ++ [(pl, KM.D.tup (.str x :: ps))]).map fun r => knots r.2).sum ∧ Wk H H' d b pf pw (inB kvs) st fo ws fs, ?_, ?_⟩
    · rintro σ' H' ⟨st, fo, ws, fs, o4, o5, o6, o7, o8, rfl, hm, W'⟩
      exact ⟨_, by omega, st, fo, ws, fs, o4, o5, o6, o7, o8, rfl, rfl, W'⟩
    -- pop
    have sm1 : Same H (upd H1 pw (.lst ws')) := same_upd W.sm hpw0
    refine ⟨_, rfl, .inl ⟨rfl, _, SqL.of W.hw⟩, pw, _, .ref qy, rfl, rfl, W.hw, (by simp), ?_⟩
    rw [List.dropLast_concat]
    have nqy : qy ≠ pw := fun z => by rw [z, W.hw] at hqy; cases hqy
    have hw2 : (upd H1 pw (.lst ws')) pw = some (.lst ws') := upd_same
    have hf2 : (upd H1 pw (.lst ws')) pf = some (.lst fs) := by rw [upd_ne npf]; exact W.hf
    have hqy2 : (upd H1 pw (.lst ws')) qy = some (.tup [plv, ev]) := by rw [upd_ne nqy]; exact hqy
    have rws2 := rws'.updL (o := .lst ws') W.hw
    have rf2 := W.rf.updL (o := .lst ws') W.hw
    have rpl2 := rpl.updL (o := .lst ws') W.hw
    have re2 := re.updL (o := .lst ws') W.hw
    generalize upd H1 pw (.lst ws') = H2 at sm1 hw2 hf2 hqy2 rws2 rf2 rpl2 re2 ⊢
    refine ⟨qy, _, rfl, SqT.of hqy2, rfl, _, _, rfl, _, _, rfl, rfl, ?_⟩
    -- append to what was found
    refine ⟨_, rfl, .inl ⟨rfl, _, SqL.of hf2⟩, _, rfl, _, rfl, _, rfl, _, rfl, _, ev, b, kvs, rfl, re2, wfe, sm1 _ _ hb, fun H3 s3 => ⟨(by show 3 ≤ sizeLine; decide), fun q3 e3 => ?_⟩⟩
    have t3 := same_new e3 (.tup [plv, ev, ruleD (inB kvs) (.tup (.str x :: ps))])
    have s23 := s3.trans t3
    have lf := rf2.length
    rw [List.length_map] at lf
    have lfo : fs.length < 16777216 := by
      have h1 := congrArg List.length hall
      rw [List.length_append] at h1
      have h2 := rowsD_len [] d
      omega
    refine ⟨pf, _, _, rfl, rfl, s23 _ _ hf2, (by rw [sizeLine_eq]; exact lfo), ?_⟩
    have hq3 : (upd H3 q3 (.tup [plv, ev, ruleD (inB kvs) (.tup (.str x :: ps))])) q3 = some (.tup [plv, ev, ruleD (inB kvs) (.tup (.str x :: ps))]) := upd_same
    have hf3 := s23 _ _ hf2
    have hw3 := s23 _ _ hw2
    have sm3 := sm1.trans s23
    have rws3 := rws2.mono s23
    have rf3 := rf2.mono s23
    have rpl3 := rpl2.mono s23
    have re3 := re2.mono s23
    generalize upd H3 q3 (.tup [plv, ev, ruleD (inB kvs) (.tup (.str x :: ps))]) = H4 at hq3 hf3 hw3 sm3 rws3 rf3 rpl3 re3 ⊢
    clear s23 t3 e3 s3
    have rrow : Rep H4 (rowD (inB kvs) (pl, .tup (.str x :: ps))) (.ref q3) := ⟨q3, _, rfl, hq3, ⟨_, _, rfl, rpl3, ⟨_, _, rfl, re3, ⟨_, _, rfl, rule_rep wfe, rfl⟩⟩⟩⟩
    have sm4 : Same H (upd H4 pf (.lst (fs ++ [V.ref q3]))) := same_upd sm3 hpf
    have hf4 : (upd H4 pf (.lst (fs ++ [V.ref q3]))) pf = some (.lst (fs ++ [V.ref q3])) := upd_same
    have hw4 : (upd H4 pf (.lst (fs ++ [V.ref q3]))) pw = some (.lst ws') := by rw [upd_ne npf.symm]; exact hw3
    have rws4 := rws3.updL (o := .lst (fs ++ [V.ref q3])) hf3
    have rf4 := (rf3.append (Reps.one rrow)).updL (o := .lst (fs ++ [V.ref q3])) hf3
    have rpl4 := rpl3.updL (o := .lst (fs ++ [V.ref q3])) hf3
    have re4 := re3.updL (o := .lst (fs ++ [V.ref q3])) hf3
    generalize upd H4 pf (.lst (fs ++ [V.ref q3])) = H5 at sm4 hf4 hw4 rws4 rf4 rpl4 re4 ⊢
    -- the children
    refine ⟨_, rfl, x, ps, ev, rfl, re4, hps, fun pk us H6 hpk s6 h6 r6 => ?_⟩
    have l6 := r6.length
    have hk4 := kids4 wfk
    have npk : pk ≠ pw := fun z => by rw [z, hw4] at hpk; cases hpk
    refine ⟨_, rfl, pk, _, rfl, .inl (SqL.of h6), _, rfl, (by show -(2 ^ 62) ≤ ((us.length : Nat) : Int); omega), (by show ((us.length : Nat) : Int) < 2 ^ 62; omega), ?_⟩
    obtain ⟨pa, pvs, rfl, hpa, rpa⟩ := id rpl4
    have lpa := rpa.length
    rw [List.length_map] at lpa
    have nk : us.length = (kidsD x ps).length := l6
    have hw6 := s6 _ _ hw4
    have hf6 := s6 _ _ hf4
    have hpa6 := s6 _ _ hpa
    have rws6 := rws4.mono s6
    have rf6 := rf4.mono s6
    have re6 := re4.mono s6
    have sm6 := sm4.trans s6
    refine for_by us.length (fun j σ' H' => ∃ (ws2 : List V) (sv nv : Option V), σ' = [some v, some (.ref b), some (.ref pf), some (.ref pw), some (.ref pa), some ev, some (.ref pk), sv, nv] ∧ H' pw = some (.lst ws2) ∧ Reps H' ((st' ++ (List.range j).map fun t => ((pl ++ [us.length - 1 - t], ((kidsD x ps)[us.length - 1 - t]?).getD .non) : Rp)).map stD) ws2 ∧ SameX pw H6 H') ?_ ?_ ?_
    · exact ⟨ws', o7, o8, rfl, hw6, by simpa using rws6, fun _ _ _ h => h⟩
    · rintro j σ' H7 hj ⟨ws2, sv, nv, rfl, hw7, rws7, x7⟩
      refine ⟨hj, ?_⟩
      rintro x' H7' ⟨rfl, rfl⟩
      have e0 : (0 : Int) + (j : Int) = ((j : Nat) : Int) := by omega
      rw [e0]
      have h67 := x7 _ _ npk h6
      have hpa7 := x7 _ _ (fun z => by rw [z, hw6] at hpa6; cases hpa6) hpa6
      obtain ⟨di, hdi⟩ : ∃ di, (kidsD x ps)[us.length - 1 - j]? = some di := ⟨_, List.getElem?_eq_getElem (by omega)⟩
      obtain ⟨ui, hui, rui⟩ := r6.get hdi
      have rui7 := rui.monoX x7 (not_tup_list hw6)
      have rpa7 : Reps _ (pl.map fun i => KM.D.int (i : Nat)) pvs := (rpa.mono s6).monoX x7 (not_tup_list hw6)
      refine ⟨_, rfl, pk, _, rfl, .inl (SqL.of h67), _, _, rfl, rfl, _, rfl, _, _, rfl, rfl, ?_⟩
      have en : ((us.length : Nat) : Int) - 1 - ((j : Nat) : Int) = ((us.length - 1 - j : Nat) : Int) := by omega
      show gName 8 (V.int (((us.length : Nat) : Int) - 1 - ((j : Nat) : Int))) _ _ _
      rw [en]
      refine ⟨_, rfl, .inl ⟨rfl, _, SqL.of hw7⟩, _, rfl, _, rfl, (by show 1 ≤ sizeLine; decide), fun q5 e5 => ?_⟩
      have t5 := same_new e5 (.tup [V.int ((us.length - 1 - j : Nat) : Int)])
      refine ⟨pa, q5, _, _, rfl, rfl, t5 _ _ hpa7, upd_same, ?_, fun q6 H8 s8 h8 => ?_⟩
      · rw [List.length_singleton, sizeLine_eq]; omega
      have t58 := t5.trans s8
      refine ⟨_, rfl, _, rfl, pk, _, _, ui, rfl, rfl, SqL.of (t58 _ _ h67), atI_nat hui, (by show 2 ≤ sizeLine; decide), fun q7 e7 => ?_⟩
      have t9 := same_new e7 (.tup [V.ref q6, ui])
      have t79 := t58.trans t9
      have lw7 := rws7.length
      rw [List.length_map, List.length_append, List.length_map, List.length_range] at lw7
      have lst' : st'.length ≤ 1000000 := by
        have h1 : ∀ l : List Rp, (∀ x ∈ l, Wf x.2) → l.length ≤ (l.map fun r => knots r.2).sum := fun l => by
          induction l with
          | nil => intro _; exact Nat.zero_le _
          | cons a l ih =>
            intro h
            have h2 := ih fun x hx => h x (List.mem_cons_of_mem _ hx)
            obtain ⟨k', hk'⟩ := h a List.mem_cons_self
            obtain ⟨x', ps', e'⟩ := wf_form hk'
            have h3 : 1 ≤ knots a.2 := by rw [e']; simp only [knots]; omega
            rw [List.map_cons, List.sum_cons, List.length_cons]
            omega
        have := h1 st' fun x hx => (W.ok x (List.mem_append_left _ hx)).1
        omega
      refine ⟨pw, ws2, _, rfl, rfl, t79 _ _ hw7, (by rw [sizeLine_eq]; omega), ?_⟩
      have hq7 : (upd H8 q7 (.tup [V.ref q6, ui])) q7 = some (.tup [V.ref q6, ui]) := upd_same
      have h89 := t9 _ _ h8
      have rplc : Rep (upd H8 q7 (.tup [V.ref q6, ui])) (plD (pl ++ [us.length - 1 - j])) (.ref q6) := by
        refine ⟨q6, _, rfl, h89, ?_⟩
        rw [List.map_append]
        exact (rpa7.mono t79).append ⟨_, _, rfl, rfl, rfl⟩
      have rnew : Rep (upd H8 q7 (.tup [V.ref q6, ui])) (stD (pl ++ [us.length - 1 - j], di)) (.ref q7) := ⟨q7, _, rfl, hq7, ⟨_, _, rfl, rplc, ⟨_, _, rfl, rui7.mono t79, rfl⟩⟩⟩
      have rall := (rws7.mono t79).append (Reps.one rnew)
      refine ⟨ws2 ++ [V.ref q7], _, _, rfl, upd_same, ?_, x7.trans (t79.x.trans (SameX.upd _))⟩
      have el : (st' ++ (List.range (j + 1)).map fun t => ((pl ++ [us.length - 1 - t], ((kidsD x ps)[us.length - 1 - t]?).getD .non) : Rp)).map stD = (st' ++ (List.range j).map fun t => ((pl ++ [us.length - 1 - t], ((kidsD x ps)[us.length - 1 - t]?).getD .non) : Rp)).map stD ++ [stD (pl ++ [us.length - 1 - j], di)] := by
        rw [List.range_succ]
        simp [hdi]
      rw [el]
      exact rall.updL (t79 _ _ hw7)
    · rintro σ' H7 ⟨ws2, sv, nv, rfl, hw7, rws7, x7⟩
      refine ⟨Nat.le_refl _, ?_⟩
      have hrev : ((List.range us.length).map fun t => ((pl ++ [us.length - 1 - t], ((kidsD x ps)[us.length - 1 - t]?).getD .non) : Rp)).reverse = (List.range us.length).map fun i => ((pl ++ [i], ((kidsD x ps)[i]?).getD .non) : Rp) := rev_map (fun i => ((pl ++ [i], ((kidsD x ps)[i]?).getD .non) : Rp)) us.length
      have hsum : (((List.range us.length).map fun t => ((pl ++ [us.length - 1 - t], ((kidsD x ps)[us.length - 1 - t]?).getD .non) : Rp)).map (fun r => knots r.2)).sum = ((kidsD x ps).map knots).sum := by
        rw [← List.sum_reverse, ← List.map_reverse, hrev, List.map_map, nk]
        exact congrArg List.sum (range_map knots .non (kidsD x ps))
      refine ⟨st' ++ (List.range us.length).map fun t => ((pl ++ [us.length - 1 - t], ((kidsD x ps)[us.length - 1 - t]?).getD .non) : Rp), fo ++ [(pl, .tup (.str x :: ps))], ws2, fs ++ [V.ref q3], _, _, _, _, _, rfl, ?_, ⟨hw7, x7 _ _ npf hf6, rws7, ?_, ?_, ?_, ?_, ?_⟩⟩
      · rw [List.map_append, List.sum_append, hsum, List.map_append, List.sum_append]
        have e1 : (List.map (fun r : Rp => knots r.2) [(pl, KM.D.tup (.str x :: ps))]).sum = knots (.tup (.str x :: ps)) := by simp
        rw [e1, hkk.1]
        omega
      · rw [List.map_append, List.map_singleton]
        exact rf6.monoX x7 (not_tup_list hw6)
      · rw [← hall, List.reverse_append, List.flatMap_append, hrev, rowsD_eq, rowsL_range, nk]
        simp
      · intro x' hx'
        rcases List.mem_append.mp hx' with h | h
        · exact W.ok x' (List.mem_append_left _ h)
        · obtain ⟨i, hi, rfl⟩ := List.mem_map.mp h
          have hi := List.mem_range.mp hi
          obtain ⟨di, hdi⟩ : ∃ di, (kidsD x ps)[us.length - 1 - i]? = some di := ⟨_, List.getElem?_eq_getElem (by omega)⟩
          obtain ⟨w1, w2⟩ := wf_kid wfk hdi
          rw [hdi]
          refine ⟨w1, ?_⟩
          rw [List.length_append, List.length_singleton]
          show pl.length + 1 + depth di ≤ 60
          omega
      · rw [List.map_append, List.sum_append, hsum]
        omega
      · exact fun b' o' h' => x7 _ _ (ne_of_none h' hpw0) (sm6 _ _ h')
  · have c : ¬ (0 : Int) < ((ws.length : Nat) : Int) := of_decide_eq_false (Bool.eq_false_iff.mpr c)
    have hst : st = [] := List.length_eq_zero_iff.mp (by omega)
    subst hst
    have hall := W.all
    rw [List.reverse_nil, List.flatMap_nil, List.append_nil] at hall
    have rf := W.rf
    rw [hall] at rf
    exact ⟨_, rfl, q pf fs H1 hpf W.sm W.hf rf⟩
end K20
end
section
set_option maxHeartbeats 4000000
namespace K20
open PySem L2 L3 KM PyProof.Rows
seal L2.PE L2.PS L2.PSs L2.PT L2.PW L2.PA L2.PG L2.PGs L2.PI L2.PC L2.PO L2.PPs L2.PK L3.PIf
variable {P : Program} {w : World} {K : PySem.W.Frag} {mg : Str → Option Value} {base : Heap} {t : Adr}
def RulV (v : V) : Prop := v = .non ∨ ∃ x : Str, v = .str x ∧ x.length ≤ 1000
theorem rule_RulV (inb : Str → Bool) (d : D) : RulV (ruleD inb d) := by
  have st : ∀ y : Str, y.length ≤ 1000 → RulV (.str y) := fun y hy => .inr ⟨y, rfl, hy⟩
  have nn : RulV .non := .inl rfl
  unfold ruleD
  split
  · unfold ruleW nameB
    repeat' split
    all_goals first | exact nn | exact st _ (by decide +kernel)
  · exact nn
def spTold : Sp := fun vs H Q _ => ∃ v : V, vs = [v, v] ∧ RulV v ∧ ∀ H', Same H H' → Q (.bl true) H'
theorem sc_law_told : FnScope ["_law_found", "_law_due"] ["_law_found", "_law_due"] (defScope s_law_told) := ⟨rfl, rfl, rfl, by decide +kernel, rfl, by decide +kernel, by decide +kernel⟩
theorem c_law_told (D : Df K mg "_law_told" s_law_told ["_law_found", "_law_due"]) (M : Mg mg t) : Cal P w K mg CX0 "_law_told" (1) ["_law_found", "_law_due"] spTold := by
  refine D.ok sc_law_told (fun vs H Q E h => ?_) (fun base f cdv A outer s H vs Q E hr h => ?_)
  · obtain ⟨v, rfl, _⟩ := h
    rfl
  obtain ⟨v, rfl, hv, q⟩ := h
  refine ⟨_, (pss_cons (ps_if (pt_cmpR op_isN (pv 1) pe_non (nomark _)) (pss_one (ps_ret (pe_cmpR op_isN (pv 0) pe_non (nomark _)))) pss_nil)
      (pss_one (ps_ret (pe_and (pe_callB call_isinst rfl M.n_isinstance bt_isinstance (pa_cons (pv 0) (pa_cons (pe_ty M.n_str bt_str rfl) pa_nil))) (pe_one (pe_cmpR op_eq (pv 0) (pv 1) (nomark _))))))), ?_⟩
  rcases hv with rfl | ⟨x, rfl, hx⟩
  · refine ⟨_, rfl, rfl, _, rfl, ite2 (fun c => ?_) (fun c => absurd (decide_eq_true rfl) c)⟩
    exact ⟨_, rfl, rfl, q H (Same.refl H)⟩
  · have r : Rep H (.str x) (.str x) := ⟨rfl, hx⟩
    refine ⟨_, rfl, rfl, _, rfl, ite2 (fun c => absurd (of_decide_eq_true c) (by simp)) (fun _ => ?_)⟩
    refine ⟨_, rfl, _, _, _, _, rfl, r.ty, kit_str _ (.str x), true, rfl, iteT ⟨_, rfl, _, rfl, rfl, ?_⟩⟩
    rw [decide_eq_true rfl]
    exact q H (Same.refl H)
mutual
theorem rows_wf : ∀ (d : D) (k : Bool) (pl : List Nat), wfG isStrD k d = true → ∀ r ∈ rowsD pl d, Wf r.2 ∧ depth r.2 ≤ depth d ∧ knots r.2 ≤ knots d
  | .tup (.str x :: ps), k, pl, h, r, hr => by
    rw [rowsD] at hr
    rcases List.mem_cons.mp hr with rfl | hr
    · exact ⟨⟨k, h⟩, Nat.le_refl _, Nat.le_refl _⟩
    · split at hr
      · cases hr
      · rename_i hx
        have hk : kidsD x ps = ps := by unfold kidsD; rw [if_neg hx]
        have hs : ∀ (i : Nat) (p : D), ps[i]? = some p → ∃ k', wfG isStrD k' p = true := fun i p e => (wf_kid h (by rw [hk]; exact e)).1
        obtain ⟨a, b, c⟩ := rowsL_wf ps pl 0 hs r hr
        refine ⟨a, ?_, ?_⟩
        · simp only [depth, depthL]; omega
        · simp only [knots, knotsL]; omega
  | .tup [], k, pl, h, r, hr => by simp [rowsD] at hr
  | .tup (.non :: _), k, pl, h, r, hr => by simp [rowsD] at hr
  | .tup (.bl _ :: _), k, pl, h, r, hr => by simp [rowsD] at hr
  | .tup (.int _ :: _), k, pl, h, r, hr => by simp [rowsD] at hr
  | .tup (.tup _ :: _), k, pl, h, r, hr => by simp [rowsD] at hr
  | .non, k, pl, h, r, hr => by simp [rowsD] at hr
  | .bl _, k, pl, h, r, hr => by simp [rowsD] at hr
  | .int _, k, pl, h, r, hr => by simp [rowsD] at hr
  | .str _, k, pl, h, r, hr => by simp [rowsD] at hr
theorem rowsL_wf : ∀ (ds : List D) (pl : List Nat) (j : Nat), (∀ (i : Nat) (p : D), ds[i]? = some p → ∃ k', wfG isStrD k' p = true) → ∀ r ∈ rowsL pl j ds, Wf r.2 ∧ depth r.2 ≤ depthL ds ∧ knots r.2 ≤ knotsL ds
  | [], pl, j, h, r, hr => by rw [rowsL] at hr; cases hr
  | d :: ds, pl, j, h, r, hr => by
    rw [rowsL] at hr
    simp only [depthL, knotsL]
    rcases List.mem_append.mp hr with hr | hr
    · obtain ⟨k', hk'⟩ := h 0 d rfl
      obtain ⟨a, b, c⟩ := rows_wf d k' _ hk' r hr
      exact ⟨a, by omega, by omega⟩
    · obtain ⟨a, b, c⟩ := rowsL_wf ds pl (j + 1) (fun i p e => h (i + 1) p (by simpa using e)) r hr
      exact ⟨a, by omega, by omega⟩
end
def spAll : Sp := fun vs H Q _ => ∃ (f b : Addr) (fs : List V) (rows : List Rp) (kvs kvs' : List (Key × V)), vs = [.ref f, .ref b] ∧ H f = some (.lst fs) ∧ Reps H (rows.map (rowD (inB kvs))) fs ∧ (∀ r ∈ rows, Wf r.2) ∧ H b = some (.dK kvs') ∧ inB kvs' = inB kvs ∧ ∀ H', Same H H' → Q (.bl true) H'
theorem sc_law_all : FnScope ["_law_rows_here", "_law_book_here", "_law_row"] ["_law_rows_here", "_law_book_here"] (defScope s_law_all) := ⟨rfl, rfl, rfl, by decide +kernel, rfl, by decide +kernel, by decide +kernel⟩
theorem c_law_all (D : Df K mg "_law_all" s_law_all ["_law_rows_here", "_law_book_here"]) (M : Mg mg t) (F_rule_of : Cal P w K mg CX0 "rule_of" (1) ["thing", "book"] spRule) (F_law_told : Cal P w K mg CX0 "_law_told" (1) ["_law_found", "_law_due"] spTold) : Cal P w K mg CX0 "_law_all" (2) ["_law_rows_here", "_law_book_here"] spAll := by
  refine D.ok sc_law_all (fun vs H Q E h => ?_) (fun base f cdv A outer s H vs Q E hr h => ?_)
  · obtain ⟨f, b, fs, rows, kvs, kvs', rfl, _⟩ := h
    rfl
  obtain ⟨f, b, fs, rows, kvs, kvs', rfl, hf, rf, hwf, hb, hin, q⟩ := h
  have lf := rf.length
  rw [List.length_map] at lf
  refine ⟨_, (pss_cons (ps_for PassesOwn.never rfl (pi_list (pv 0)) (pg_name (i := 2) sc_law_all.nd rfl (by first | exact Or.inl rfl | exact Or.inr rfl)) (pss_one (ps_if (pt_not (pt_val (pe_fn F_law_told (hr.mono (by omega)) rfl pass0 (pa_cons (pe_fn F_rule_of (hr.mono (by omega)) rfl pass0 (pa_cons (pe_ix ix_tup (pv 2) pe_int (fun _ _ => rfl)) (pa_cons (pv 1) pa_nil))) (pa_cons (pe_ix ix_tup (pv 2) pe_int (fun _ _ => rfl)) pa_nil))))) (pss_one (ps_ret pe_bl)) pss_nil)))
      (pss_one (ps_ret pe_bl))), ?_⟩
  refine ⟨_, rfl, f, rfl, ⟨_, SqL.of hf⟩, ?_⟩
  refine for_by fs.length (fun i σ' H' => ∃ rv : Option V, σ' = [some (.ref f), some (.ref b), rv] ∧ Same H H') ?_ ?_ ?_
  · exact ⟨none, rfl, Same.refl _⟩
  · rintro i σ' H1 hi ⟨rv, rfl, s1⟩
    obtain ⟨r', hr'⟩ : ∃ r, rows[i]? = some r := ⟨_, List.getElem?_eq_getElem (by omega)⟩
    obtain ⟨u, hu, ru⟩ := rf.get (i := i) (d := rowD (inB kvs) r') (by rw [List.getElem?_map, hr']; rfl)
    have ru := ru.mono s1
    refine ⟨⟨fs, u, SqL.of (s1 _ _ hf), hu⟩, ?_⟩
    rintro x' H2 ⟨rfl, hy⟩
    have hy := hy fs (SqL.of (s1 _ _ hf))
    rw [hu] at hy
    cases hy
    obtain ⟨qa, _, rfl, hqa, ⟨v1, _, rfl, r1, ⟨v2, _, rfl, r2, ⟨v3, _, rfl, r3, rn⟩⟩⟩⟩ := ru
    cases (show _ = [] from rn)
    have wfr := hwf r' (List.mem_of_getElem? hr')
    have e3 : v3 = ruleD (inB kvs) r'.2 := by
      have h1 := rule_RulV (inB kvs) r'.2
      rcases h1 with h1 | ⟨x, h1, _⟩
      · rw [h1] at r3 ⊢
        exact r3
      · rw [h1] at r3 ⊢
        exact r3.1
    subst e3
    refine ⟨_, rfl, qa, _, _, v2, rfl, rfl, SqT.of hqa, atI_nat (j := 1) rfl, _, rfl, r'.2, v2, b, kvs', rfl, r2, wfr, s1 _ _ hb, fun H3 s3 => ?_⟩
    rw [hin]
    refine ⟨_, rfl, qa, _, _, _, rfl, rfl, SqT.of (s3 _ _ hqa), atI_nat (j := 2) rfl, _, rfl, rule_RulV _ _, fun H4 s4 => ⟨true, rfl, iteF ⟨_, rfl, s1.trans (s3.trans s4)⟩⟩⟩
  · rintro σ' H1 ⟨rv, rfl, s1⟩
    exact ⟨⟨fs, SqL.of (s1 _ _ hf), Nat.le_refl _⟩, q H1 s1⟩
def spLaw (K : PySem.W.Frag) : Sp := fun vs H Q _ => ∃ (a : Addr) (ns : List Int), vs = [.ref a] ∧ SqL K H a (ns.map V.int) ∧ ns.length ≤ 63 ∧ ∀ H', Q (.bl true) H'
theorem tape_new {H : Hp} {a p : Addr} {ns : List Int} (hS : SqL K H a (ns.map V.int)) (hl : ns.length ≤ 63) (hp : H p = none) : Tp K a p ns (upd H p (.lst [V.int 0])) 0 := by
  refine ⟨?_, hl, upd_same, Int.le_refl _⟩
  rcases hS with (h | ⟨o, h⟩) | h
  · have n : a ≠ p := ne_of_none h hp
    exact .inl ⟨n, .inl (by rw [upd_ne n]; exact h)⟩
  · have n : a ≠ p := ne_of_none h hp
    exact .inl ⟨n, .inr ⟨o, by rw [upd_ne n]; exact h⟩⟩
  · exact .inr fun H' => .inr h
theorem sc_law : FnScope ["_law_script", "_law_tape", "_law_pool_here", "_law_near", "_law_book_here", "_law_thing_here", "_law_rows_here", "_law_handed", "_law_more", "_law_name"] ["_law_script"] (defScope s_law) := ⟨rfl, rfl, rfl, by decide +kernel, rfl, by decide +kernel, by decide +kernel⟩
theorem c_law {f : Addr} {fd : FuncData} (F : Fun K "law" "law" s_law f fd) (M : Mg mg t) (F_law_draw : Cal P w K mg CX0 "_law_draw" (1) ["_law_script", "_law_tape", "_law_many"] (spDraw K)) (F_law_pool : Cal P w K mg CX0 "_law_pool" (2) ["_law_script", "_law_tape"] (spPool K)) (F_law_book : Cal P w K mg CX0 "_law_book" (224) ["_law_script", "_law_tape", "_law_pool_here"] (spBook K)) (F_law_thing : Cal P w K mg CX0 "_law_thing" (224) ["_law_script", "_law_tape", "_law_deep", "_law_near", "_law_pool_here"] (spThing K)) (F_law_rows : Cal P w K mg CX0 "_law_rows" (2) ["_law_thing_here", "_law_book_here"] spRows)
    (F_rule_of : Cal P w K mg CX0 "rule_of" (1) ["thing", "book"] spRule) (F_law_told : Cal P w K mg CX0 "_law_told" (1) ["_law_found", "_law_due"] spTold) (F_law_all : Cal P w K mg CX0 "_law_all" (2) ["_law_rows_here", "_law_book_here"] spAll) : FnOk P w K mg base CX0 225 f fd ["_law_script"] (spLaw K) := by
  refine F.ok sc_law (fun vs H Q E h => ?_) (fun cdv A outer s H vs Q E hr h => ?_)
  · obtain ⟨a, ns, rfl, _⟩ := h
    rfl
  obtain ⟨a, ns, rfl, hS, hlen, q⟩ := h
  have hu := hu_of hr
  refine ⟨_, (pss_cons (ps_set (i := 1) sc_law.nd rfl (by first | exact Or.inl rfl | exact Or.inr rfl) (pe_lst (pa_cons pe_int pa_nil)))
      (pss_cons (ps_set (i := 2) sc_law.nd rfl (by first | exact Or.inl rfl | exact Or.inr rfl) (pe_fn F_law_pool (hr.mono (by omega)) rfl pass0 (pa_cons (pv 0) (pa_cons (pv 1) pa_nil))))
      (pss_cons (ps_set (i := 3) sc_law.nd rfl (by first | exact Or.inl rfl | exact Or.inr rfl) (pe_ix ix_list (pe_lst (pa_cons pe_int (pa_cons pe_int (pa_cons pe_int pa_nil)))) (pe_fn F_law_draw (hr.mono (by omega)) rfl pass0 (pa_cons (pv 0) (pa_cons (pv 1) (pa_cons pe_int pa_nil)))) (fun _ _ => rfl)))
      (pss_cons (ps_set (i := 4) sc_law.nd rfl (by first | exact Or.inl rfl | exact Or.inr rfl) (pe_fn F_law_book (hr.mono (by omega)) rfl pass0 (pa_cons (pv 0) (pa_cons (pv 1) (pa_cons (pv 2) pa_nil)))))
      (pss_cons (ps_set (i := 5) sc_law.nd rfl (by first | exact Or.inl rfl | exact Or.inr rfl) (pe_fn F_law_thing (hr.mono (by omega)) rfl pass0 (pa_cons (pv 0) (pa_cons (pv 1) (pa_cons (pe_op op_add pe_int (pe_fn F_law_draw (hr.mono (by omega)) rfl pass0 (pa_cons (pv 0) (pa_cons (pv 1) (pa_cons pe_int pa_nil))))) (pa_cons (pv 3) (pa_cons (pv 2) pa_nil)))))))
      (pss_cons (ps_set (i := 6) sc_law.nd rfl (by first | exact Or.inl rfl | exact Or.inr rfl) (pe_fn F_law_rows (hr.mono (by omega)) rfl pass0 (pa_cons (pv 5) (pa_cons (pv 4) pa_nil))))
      (pss_cons (ps_set (i := 7) sc_law.nd rfl (by first | exact Or.inl rfl | exact Or.inr rfl) (pe_callTy call_dictK rfl M.n_dict bt_dict (pa_cons (pv 4) pa_nil)))
      (pss_cons (ps_if (L2.PW.pt (pw_or (pt_not (pt_val (pe_fn F_law_all (hr.mono (by omega)) rfl pass0 (pa_cons (pv 6) (pa_cons (pv 7) pa_nil))))) (pw_or1 (pt_cmpR (op_neD hu) (pv 7) (pv 4) (nomark _))))) (pss_one (ps_ret pe_bl)) pss_nil)
      (pss_cons (ps_set (i := 8) sc_law.nd rfl (by first | exact Or.inl rfl | exact Or.inr rfl) (pe_callTy call_dictK rfl M.n_dict bt_dict (pa_cons (pv 4) pa_nil)))
      (pss_cons (ps_set (i := 9) sc_law.nd rfl (by first | exact Or.inl rfl | exact Or.inr rfl) (pe_ix ix_list (pv 2) (pe_fn F_law_draw (hr.mono (by omega)) rfl pass0 (pa_cons (pv 0) (pa_cons (pv 1) (pa_cons pe_int pa_nil)))) (fun _ _ => rfl)))
      (pss_cons (ps_dput hu (pv 8) (pv 9) (pe_tup (pa_cons (pe_tup (pa_cons pe_str pa_nil)) (pa_cons (pe_tup (pa_cons pe_str pa_nil)) pa_nil))) rfl)
      (pss_cons (ps_if (pt_not (pt_val (pe_fn F_law_all (hr.mono (by omega)) rfl pass0 (pa_cons (pe_fn F_law_rows (hr.mono (by omega)) rfl pass0 (pa_cons (pv 5) (pa_cons (pv 8) pa_nil))) (pa_cons (pv 8) pa_nil))))) (pss_one (ps_ret pe_bl)) pss_nil)
      (pss_one (ps_ret (pe_and (pe_fn F_law_told (hr.mono (by omega)) rfl pass0 (pa_cons (pe_fn F_rule_of (hr.mono (by omega)) rfl pass0 (pa_cons (pe_tup (pa_cons pe_str (pa_cons (pv 9) pa_nil))) (pa_cons (pv 8) pa_nil))) (pa_cons pe_str pa_nil))) (pe_one (pe_fn F_law_all (hr.mono (by omega)) rfl pass0 (pa_cons (pv 6) (pa_cons (pv 7) pa_nil))))))))))))))))))), ?_⟩
  refine ⟨(by show 1 ≤ sizeLine; decide), fun p hp => ?_⟩
  have T0 := tape_new hS hlen hp
  generalize upd H p (.lst [V.int 0]) = H0 at T0 ⊢
  refine ⟨_, rfl, _, rfl, a, p, ns, 0, rfl, T0, (by decide), fun c x y z H1 l1 l2 l3 hc x1 h1 => ?_⟩
  have g1 : Sg K a p c ns H1 (0 + 4) := ⟨T0.next x1 h1 (by decide), x, y, z, l1, l2, l3, hc⟩
  refine ⟨(by show 3 ≤ sizeLine; decide), fun p2 e2 => ?_⟩
  have t2 := same_new e2 (.lst [V.int 0, .int 3, .int 90])
  have g2 := g1.mono t2
  refine ⟨_, rfl, _, rfl, a, p, ns, 0 + 4, 3, rfl, g2.T, (by decide), (by decide), fun wz H3 w0 w1 x3 h3 => ?_⟩
  have g3 := g2.next x3 h3 (by decide)
  have np2 : p2 ≠ p := fun z => by subst z; rw [g1.T.tape] at e2; cases e2
  have hp2 := x3 _ _ np2 (show (upd H1 p2 (.lst [V.int 0, .int 3, .int 90])) p2 = some _ from upd_same)
  obtain ⟨near, hnear, n0, n1⟩ : ∃ near : Int, atI [V.int 0, .int 3, .int 90] wz = some (.int near) ∧ 0 ≤ near ∧ near ≤ 90 := by
    have : wz = 0 ∨ wz = 1 ∨ wz = 2 := by omega
    rcases this with rfl | rfl | rfl
    · exact ⟨0, rfl, by decide, by decide⟩
    · exact ⟨3, rfl, by decide, by decide⟩
    · exact ⟨90, rfl, by decide, by decide⟩
  refine ⟨p2, _, _, _, rfl, rfl, SqL.of hp2, hnear, ?_⟩
  -- the book
  refine ⟨_, rfl, _, rfl, _, rfl, a, p, c, ns, 0 + 4 + 1, rfl, g3, (by decide), fun b kvs H4 i4 hb0 hb4 lk B4 x4 g4 lo4 hi4 => ?_⟩
  -- the thing
  refine ⟨_, rfl, _, rfl, _, rfl, _, rfl, a, p, ns, i4, 5, rfl, g4.T, (by omega), (by decide), fun dz H5 d0 d1 x5 h5 => ⟨_, _, rfl, rfl, ?_⟩⟩
  have g5 := g4.next x5 h5 (by have := g4.T.i0; omega)
  have nb : b ≠ p := fun z => by rw [z, g4.T.tape] at hb4; cases hb4
  have hb5 := x5 _ _ nb hb4
  have B5 := B4.sx x5 (not_tup_list g4.T.tape)
  refine ⟨_, rfl, _, rfl, a, p, c, ns, i4 + 1, 1 + dz, near, rfl, g5, (by omega), (by omega), (by omega), n0, n1, fun k d v H6 i6 o => ?_⟩
  have hb6 := o.sx _ _ nb hb5
  have B6 := B5.sx o.sx (not_tup_list g5.T.tape)
  have odp := o.dp
  have okn := o.kn
  have oi := o.hi
  have ol := o.lo
  have wfd : Wf d := ⟨k, o.wf⟩
  have wfs : ∀ r ∈ rowsD [] d, Wf r.2 := fun r hr => (rows_wf d k [] o.wf r hr).1
  refine ⟨_, rfl, _, rfl, d, v, b, kvs, rfl, o.r, wfd, (by omega), (by omega), hb6, fun f fs H7 hf0 s7 hf rf => ?_⟩
  have hb7 := s7 _ _ hb6
  refine ⟨_, rfl, b, kvs, rfl, hb7, fun bh ebh => ?_⟩
  have t8 := same_new ebh (.dK kvs)
  have hbh : (upd H7 bh (.dK kvs)) bh = some (.dK kvs) := upd_same
  have s8 := s7.trans t8
  have hf8 := t8 _ _ hf
  have rf8 := rf.mono t8
  generalize upd H7 bh (.dK kvs) = H8 at t8 hbh s8 hf8 rf8 ⊢
  have B8 := B6.mono s8
  have refs : ∀ k v, (k, v) ∈ kvs → ∃ c, v = V.ref c := fun k v hm => by
    obtain ⟨q, _, _, _, _, e, _⟩ := B8.each k v hm
    exact ⟨q, e⟩
  refine ⟨_, rfl, _, rfl, f, bh, fs, rowsD [] d, kvs, kvs, rfl, hf8, rf8, wfs, hbh, rfl, fun H9 s9 => ⟨true, rfl, iteF ⟨_, rfl, _, rfl, bh, b, kvs, rfl, rfl, s9 _ _ hbh, s9 _ _ (s8 _ _ hb6), refs, _, rfl, iteF ?_⟩⟩⟩
  have s69 := s8.trans s9
  have g9 := o.g.mono s69
  have r9 := o.r.mono s69
  have hf9 := s9 _ _ hf8
  have rf9 := rf8.mono s9
  have hbh9 := s9 _ _ hbh
  have hb9 := s69 _ _ hb6
  have B9 := B6.mono s69
  clear s9 t8 s8 hf8 rf8 hbh B8 hb7 s7 hf rf
  -- one name more
  refine ⟨_, rfl, b, kvs, rfl, hb9, fun bm ebm => ?_⟩
  have t10 := same_new ebm (.dK kvs)
  have hbm : (upd H9 bm (.dK kvs)) bm = some (.dK kvs) := upd_same
  have g10 := g9.mono t10
  have r10 := r9.mono t10
  have hf10 := t10 _ _ hf9
  have rf10 := rf9.mono t10
  have hbh10 := t10 _ _ hbh9
  have nfm : f ≠ bm := ne_of_none hf9 ebm
  have nhm : bh ≠ bm := ne_of_none hbh9 ebm
  generalize upd H9 bm (.dK kvs) = H10 at t10 hbm g10 r10 hf10 rf10 hbh10 ⊢
  refine ⟨_, rfl, _, rfl, _, rfl, a, p, ns, i6, 3, rfl, g10.T, (by omega), (by decide), fun at_ H11 a0 a1 x11 h11 => ?_⟩
  have g11 := g10.next x11 h11 (by have := g10.T.i0; omega)
  have ntl := not_tup_list g10.T.tape
  have nbm : bm ≠ p := fun z => by rw [z, g10.T.tape] at hbm; cases hbm
  have nfp : f ≠ p := fun z => by
    rw [z] at hf0
    rw [o.g.T.tape] at hf0
    cases hf0
  have nhp : bh ≠ p := fun z => by rw [z, g10.T.tape] at hbh10; cases hbh10
  have hbm11 := x11 _ _ nbm hbm
  have hf11 := x11 _ _ nfp hf10
  have hbh11 := x11 _ _ nhp hbh10
  have r11 := r10.monoX x11 ntl
  have rf11 := rf10.monoX x11 ntl
  obtain ⟨x', y', z', m1, m2, m3, hc11⟩ := g11.pl
  obtain ⟨nm, hnm, hnl⟩ : ∃ o : Str, atI [V.str x', .str y', .str z'] at_ = some (.str o) ∧ o.length ≤ 101 := by
    have : at_ = 0 ∨ at_ = 1 ∨ at_ = 2 := by omega
    rcases this with rfl | rfl | rfl
    · exact ⟨x', rfl, m1⟩
    · exact ⟨y', rfl, m2⟩
    · exact ⟨z', rfl, m3⟩
  refine ⟨c, _, _, _, rfl, rfl, SqL.of hc11, hnm, ?_⟩
  have one : 1 ≤ sizeLine := by decide
  refine ⟨one, fun q1 e1 => ⟨one, fun q2 e2' => ⟨(by show 2 ≤ sizeLine; decide), fun q3 e3 => ?_⟩⟩⟩
  have u1 := same_new e1 (.tup [V.str "nat"])
  have u2 := same_new e2' (.tup [V.str "zero"])
  have u3 := same_new e3 (.tup [V.ref q1, .ref q2])
  have uu := u1.trans (u2.trans u3)
  have hbm12 := uu _ _ hbm11
  have hf12 := uu _ _ hf11
  have hbh12 := uu _ _ hbh11
  have r12 := r11.mono uu
  have rf12 := rf11.mono uu
  generalize upd (upd (upd H11 q1 (.tup [V.str "nat"])) q2 (.tup [V.str "zero"])) q3 (.tup [V.ref q1, .ref q2]) = H12 at uu hbm12 hf12 hbh12 r12 rf12 ⊢
  refine ⟨_, rfl, _, rfl, bm, _, rfl, DPut.k (k := Sum.inr nm) hbm12 (Nat.lt_of_le_of_lt lk (by decide)), ?_⟩
  have xm : SameX bm H12 (upd H12 bm (.dK (putK kvs (Sum.inr nm) (.ref q3)))) := SameX.upd _
  have ntd := not_tup_dict hbm12
  have hbm13 : (upd H12 bm (.dK (putK kvs (Sum.inr nm) (.ref q3)))) bm = some (.dK (putK kvs (Sum.inr nm) (.ref q3))) := upd_same
  have hf13 := xm _ _ nfm hf12
  have hbh13 := xm _ _ nhm hbh12
  have r13 := r12.monoX xm ntd
  have rf13 := rf12.monoX xm ntd
  generalize upd H12 bm (.dK (putK kvs (Sum.inr nm) (.ref q3))) = H13 at xm hbm13 hf13 hbh13 r13 rf13 ⊢
  have hin : inB (putK kvs (Sum.inr nm) (.ref q3)) nm = true := by
    unfold inB
    rw [valV_put, if_pos rfl]
    rfl
  generalize putK kvs (Sum.inr nm) (.ref q3) = kvm at hbm13 hin ⊢
  refine ⟨_, rfl, _, rfl, d, v, bm, kvm, rfl, r13, wfd, (by omega), (by omega), hbm13, fun f2 fs2 H14 hf20 s14 hf2 rf2 => ?_⟩
  refine ⟨_, rfl, f2, bm, fs2, rowsD [] d, kvm, kvm, rfl, hf2, rf2, wfs, s14 _ _ hbm13, rfl, fun H15 s15 => ⟨true, rfl, iteF ?_⟩⟩
  have s35 := s14.trans s15
  refine ⟨_, rfl, (by show 2 ≤ sizeLine; decide), fun q4 e4 => ?_⟩
  have t16 := same_new e4 (.tup [V.str "name", .str nm])
  have rn : Rep (upd H15 q4 (.tup [V.str "name", .str nm])) (.tup [.str "name", .str nm]) (.ref q4) := rep_new e4 (rs rw_ (rs (rw_ (by omega)) r0))
  have s36 := s35.trans t16
  refine ⟨_, rfl, _, _, bm, kvm, rfl, rn, ⟨false, wf_name rfl⟩, s36 _ _ hbm13, fun H17 s17 => ?_⟩
  have er : ruleD (inB kvm) (.tup [.str "name", .str nm]) = .str "name" := by
    show (if inB kvm nm = true then V.str "name" else .non) = _
    rw [hin]
    rfl
  rw [er]
  refine ⟨_, rfl, .inr ⟨_, rfl, by decide⟩, fun H18 s18 => ⟨true, rfl, iteT ?_⟩⟩
  have s38 := s36.trans (s17.trans s18)
  exact ⟨_, rfl, _, rfl, f, bh, fs, rowsD [] d, kvs, kvs, rfl, s38 _ _ hf13, rf13.mono s38, wfs, s38 _ _ hbh13, rfl, fun H' _ => q H'⟩
end K20
end
section
set_option maxHeartbeats 4000000
namespace K20
open PySem L2 L3 KM
structure Txt (K : PySem.W.Frag) (mg : Str → Option Value) (t : Adr) : Prop where
  M : Mg mg t
  D_rule_of : Df K mg "rule_of" s_rule_of ["thing", "book"]
  D_law_draw : Df K mg "_law_draw" s_law_draw ["_law_script", "_law_tape", "_law_many"]
  D_law_named : Df K mg "_law_named" s_law_named ["_law_word"]
  D_law_pool : Df K mg "_law_pool" s_law_pool ["_law_script", "_law_tape"]
  D_law_leaf : Df K mg "_law_leaf" s_law_leaf ["_law_script", "_law_tape", "_law_near", "_law_pool_here"]
  D_law_kind : Df K mg "_law_kind" s_law_kind ["_law_script", "_law_tape", "_law_deep", "_law_near", "_law_pool_here"]
  D_law_fun : Df K mg "_law_fun" s_law_fun ["_law_script", "_law_tape", "_law_deep", "_law_near", "_law_pool_here"]
  D_law_pair : Df K mg "_law_pair" s_law_pair ["_law_script", "_law_tape", "_law_deep", "_law_near", "_law_pool_here"]
  D_law_like : Df K mg "_law_like" s_law_like ["_law_script", "_law_tape", "_law_deep", "_law_near", "_law_pool_here"]
  D_law_number : Df K mg "_law_number" s_law_number ["_law_script", "_law_tape", "_law_deep", "_law_near", "_law_pool_here"]
  D_law_parted : Df K mg "_law_parted" s_law_parted ["_law_script", "_law_tape", "_law_deep", "_law_near", "_law_pool_here", "_law_way"]
  D_law_still : Df K mg "_law_still" s_law_still ["_law_script", "_law_tape", "_law_deep", "_law_near", "_law_pool_here", "_law_way"]
  D_law_term : Df K mg "_law_term" s_law_term ["_law_script", "_law_tape", "_law_deep", "_law_near", "_law_pool_here"]
  D_law_kids : Df K mg "_law_kids" s_law_kids ["_law_thing_here"]
  D_law_measured : Df K mg "_law_measured" s_law_measured ["_law_thing_here"]
  D_law_great : Df K mg "_law_great" s_law_great ["_law_thing_here"]
  D_law_thing : Df K mg "_law_thing" s_law_thing ["_law_script", "_law_tape", "_law_deep", "_law_near", "_law_pool_here"]
  D_law_book : Df K mg "_law_book" s_law_book ["_law_script", "_law_tape", "_law_pool_here"]
  D_law_rule : Df K mg "_law_rule" s_law_rule ["_law_thing_here", "_law_book_here"]
  D_law_rows : Df K mg "_law_rows" s_law_rows ["_law_thing_here", "_law_book_here"]
  D_law_told : Df K mg "_law_told" s_law_told ["_law_found", "_law_due"]
  D_law_all : Df K mg "_law_all" s_law_all ["_law_rows_here", "_law_book_here"]
  D_law : Df K mg "law" s_law ["_law_script"]
  T_RULES : Rul K t.RULES
theorem txt_mk {K : PySem.W.Frag} {h : Heap} {mg : Str → Option Value} (X : K.In h) (G : h.Ns mainGlobals mg)
    {f0 : Addr} {od0 an0 : Option Addr} {sl0 : Array (Option Value)} {oc0 kV0 dc0 pm0 cd0 ct0 : Value}
    {f1 : Addr} {od1 an1 : Option Addr} {sl1 : Array (Option Value)} {oc1 kV1 dc1 pm1 cd1 ct1 : Value}
    {f2 : Addr} {od2 an2 : Option Addr} {sl2 : Array (Option Value)} {oc2 kV2 dc2 pm2 cd2 ct2 : Value}
    {f3 : Addr} {od3 an3 : Option Addr} {sl3 : Array (Option Value)} {oc3 kV3 dc3 pm3 cd3 ct3 : Value}
    {f4 : Addr} {od4 an4 : Option Addr} {sl4 : Array (Option Value)} {oc4 kV4 dc4 pm4 cd4 ct4 : Value}
    {f5 : Addr} {od5 an5 : Option Addr} {sl5 : Array (Option Value)} {oc5 kV5 dc5 pm5 cd5 ct5 : Value}
    {f6 : Addr} {od6 an6 : Option Addr} {sl6 : Array (Option Value)} {oc6 kV6 dc6 pm6 cd6 ct6 : Value}
    {f7 : Addr} {od7 an7 : Option Addr} {sl7 : Array (Option Value)} {oc7 kV7 dc7 pm7 cd7 ct7 : Value}
    {f8 : Addr} {od8 an8 : Option Addr} {sl8 : Array (Option Value)} {oc8 kV8 dc8 pm8 cd8 ct8 : Value}
    {f9 : Addr} {od9 an9 : Option Addr} {sl9 : Array (Option Value)} {oc9 kV9 dc9 pm9 cd9 ct9 : Value}
    {f10 : Addr} {od10 an10 : Option Addr} {sl10 : Array (Option Value)} {oc10 kV10 dc10 pm10 cd10 ct10 : Value}
    {f11 : Addr} {od11 an11 : Option Addr} {sl11 : Array (Option Value)} {oc11 kV11 dc11 pm11 cd11 ct11 : Value}
    {f12 : Addr} {od12 an12 : Option Addr} {sl12 : Array (Option Value)} {oc12 kV12 dc12 pm12 cd12 ct12 : Value}
    {f13 : Addr} {od13 an13 : Option Addr} {sl13 : Array (Option Value)} {oc13 kV13 dc13 pm13 cd13 ct13 : Value}
    {f14 : Addr} {od14 an14 : Option Addr} {sl14 : Array (Option Value)} {oc14 kV14 dc14 pm14 cd14 ct14 : Value}
    {f15 : Addr} {od15 an15 : Option Addr} {sl15 : Array (Option Value)} {oc15 kV15 dc15 pm15 cd15 ct15 : Value}
    {f16 : Addr} {od16 an16 : Option Addr} {sl16 : Array (Option Value)} {oc16 kV16 dc16 pm16 cd16 ct16 : Value}
    {f17 : Addr} {od17 an17 : Option Addr} {sl17 : Array (Option Value)} {oc17 kV17 dc17 pm17 cd17 ct17 : Value}
    {f18 : Addr} {od18 an18 : Option Addr} {sl18 : Array (Option Value)} {oc18 kV18 dc18 pm18 cd18 ct18 : Value}
    {f19 : Addr} {od19 an19 : Option Addr} {sl19 : Array (Option Value)} {oc19 kV19 dc19 pm19 cd19 ct19 : Value}
    {f20 : Addr} {od20 an20 : Option Addr} {sl20 : Array (Option Value)} {oc20 kV20 dc20 pm20 cd20 ct20 : Value}
    {f21 : Addr} {od21 an21 : Option Addr} {sl21 : Array (Option Value)} {oc21 kV21 dc21 pm21 cd21 ct21 : Value}
    {f22 : Addr} {od22 an22 : Option Addr} {sl22 : Array (Option Value)} {oc22 kV22 dc22 pm22 cd22 ct22 : Value}
    {t_RULES : Addr}
    {es_RULES : Array DictEntry} {ep_RULES : Nat}
    {b0_RULES b1_RULES b2_RULES b3_RULES b4_RULES : Addr}
    {b0_0_RULES : Addr}
    {d0_RULES : Option Addr} {i0_RULES : Array Value} {n0_RULES : Nat} {s0_RULES : Array (Option Value)}
    {d0_0_RULES : Option Addr} {i0_0_RULES : Array Value} {n0_0_RULES : Nat} {s0_0_RULES : Array (Option Value)}
    {b1_0_RULES b1_1_RULES : Addr}
    {d1_RULES : Option Addr} {i1_RULES : Array Value} {n1_RULES : Nat} {s1_RULES : Array (Option Value)}
    {d1_0_RULES : Option Addr} {i1_0_RULES : Array Value} {n1_0_RULES : Nat} {s1_0_RULES : Array (Option Value)}
    {d1_1_RULES : Option Addr} {i1_1_RULES : Array Value} {n1_1_RULES : Nat} {s1_1_RULES : Array (Option Value)}
    {b2_0_RULES : Addr}
    {d2_RULES : Option Addr} {i2_RULES : Array Value} {n2_RULES : Nat} {s2_RULES : Array (Option Value)}
    {d2_0_RULES : Option Addr} {i2_0_RULES : Array Value} {n2_0_RULES : Nat} {s2_0_RULES : Array (Option Value)}
    {b3_0_RULES : Addr}
    {d3_RULES : Option Addr} {i3_RULES : Array Value} {n3_RULES : Nat} {s3_RULES : Array (Option Value)}
    {d3_0_RULES : Option Addr} {i3_0_RULES : Array Value} {n3_0_RULES : Nat} {s3_0_RULES : Array (Option Value)}
    {b4_0_RULES : Addr}
    {d4_RULES : Option Addr} {i4_RULES : Array Value} {n4_RULES : Nat} {s4_RULES : Array (Option Value)}
    {d4_0_RULES : Option Addr} {i4_0_RULES : Array Value} {n4_0_RULES : Nat} {s4_0_RULES : Array (Option Value)}
    (a0 : PySem.W.nsIn K mainGlobals "rule_of" = some (some (.ref f0)))
    (l0 : K.lookup f0 = some ⟨oc0, od0, .func (PySem.W.fnOf "rule_of" "rule_of" (defArgs s_rule_of) (defBody s_rule_of) (defScope s_rule_of) .none kV0 dc0 pm0 an0 cd0 ct0), sl0⟩)
    (c0 : PySem.W.codeIn K cd0 "rule_of" = true)
    (k0 : PySem.W.keepIn K (.ref f0) = true)
    (a1 : PySem.W.nsIn K mainGlobals "_law_draw" = some (some (.ref f1)))
    (l1 : K.lookup f1 = some ⟨oc1, od1, .func (PySem.W.fnOf "_law_draw" "_law_draw" (defArgs s_law_draw) (defBody s_law_draw) (defScope s_law_draw) .none kV1 dc1 pm1 an1 cd1 ct1), sl1⟩)
    (c1 : PySem.W.codeIn K cd1 "_law_draw" = true)
    (k1 : PySem.W.keepIn K (.ref f1) = true)
    (a2 : PySem.W.nsIn K mainGlobals "_law_named" = some (some (.ref f2)))
    (l2 : K.lookup f2 = some ⟨oc2, od2, .func (PySem.W.fnOf "_law_named" "_law_named" (defArgs s_law_named) (defBody s_law_named) (defScope s_law_named) .none kV2 dc2 pm2 an2 cd2 ct2), sl2⟩)
    (c2 : PySem.W.codeIn K cd2 "_law_named" = true)
    (k2 : PySem.W.keepIn K (.ref f2) = true)
    (a3 : PySem.W.nsIn K mainGlobals "_law_pool" = some (some (.ref f3)))
    (l3 : K.lookup f3 = some ⟨oc3, od3, .func (PySem.W.fnOf "_law_pool" "_law_pool" (defArgs s_law_pool) (defBody s_law_pool) (defScope s_law_pool) .none kV3 dc3 pm3 an3 cd3 ct3), sl3⟩)
    (c3 : PySem.W.codeIn K cd3 "_law_pool" = true)
    (k3 : PySem.W.keepIn K (.ref f3) = true)
    (a4 : PySem.W.nsIn K mainGlobals "_law_leaf" = some (some (.ref f4)))
    (l4 : K.lookup f4 = some ⟨oc4, od4, .func (PySem.W.fnOf "_law_leaf" "_law_leaf" (defArgs s_law_leaf) (defBody s_law_leaf) (defScope s_law_leaf) .none kV4 dc4 pm4 an4 cd4 ct4), sl4⟩)
    (c4 : PySem.W.codeIn K cd4 "_law_leaf" = true)
    (k4 : PySem.W.keepIn K (.ref f4) = true)
    (a5 : PySem.W.nsIn K mainGlobals "_law_kind" = some (some (.ref f5)))
    (l5 : K.lookup f5 = some ⟨oc5, od5, .func (PySem.W.fnOf "_law_kind" "_law_kind" (defArgs s_law_kind) (defBody s_law_kind) (defScope s_law_kind) .none kV5 dc5 pm5 an5 cd5 ct5), sl5⟩)
    (c5 : PySem.W.codeIn K cd5 "_law_kind" = true)
    (k5 : PySem.W.keepIn K (.ref f5) = true)
    (a6 : PySem.W.nsIn K mainGlobals "_law_fun" = some (some (.ref f6)))
    (l6 : K.lookup f6 = some ⟨oc6, od6, .func (PySem.W.fnOf "_law_fun" "_law_fun" (defArgs s_law_fun) (defBody s_law_fun) (defScope s_law_fun) .none kV6 dc6 pm6 an6 cd6 ct6), sl6⟩)
    (c6 : PySem.W.codeIn K cd6 "_law_fun" = true)
    (k6 : PySem.W.keepIn K (.ref f6) = true)
    (a7 : PySem.W.nsIn K mainGlobals "_law_pair" = some (some (.ref f7)))
    (l7 : K.lookup f7 = some ⟨oc7, od7, .func (PySem.W.fnOf "_law_pair" "_law_pair" (defArgs s_law_pair) (defBody s_law_pair) (defScope s_law_pair) .none kV7 dc7 pm7 an7 cd7 ct7), sl7⟩)
    (c7 : PySem.W.codeIn K cd7 "_law_pair" = true)
    (k7 : PySem.W.keepIn K (.ref f7) = true)
    (a8 : PySem.W.nsIn K mainGlobals "_law_like" = some (some (.ref f8)))
    (l8 : K.lookup f8 = some ⟨oc8, od8, .func (PySem.W.fnOf "_law_like" "_law_like" (defArgs s_law_like) (defBody s_law_like) (defScope s_law_like) .none kV8 dc8 pm8 an8 cd8 ct8), sl8⟩)
    (c8 : PySem.W.codeIn K cd8 "_law_like" = true)
    (k8 : PySem.W.keepIn K (.ref f8) = true)
    (a9 : PySem.W.nsIn K mainGlobals "_law_number" = some (some (.ref f9)))
    (l9 : K.lookup f9 = some ⟨oc9, od9, .func (PySem.W.fnOf "_law_number" "_law_number" (defArgs s_law_number) (defBody s_law_number) (defScope s_law_number) .none kV9 dc9 pm9 an9 cd9 ct9), sl9⟩)
    (c9 : PySem.W.codeIn K cd9 "_law_number" = true)
    (k9 : PySem.W.keepIn K (.ref f9) = true)
    (a10 : PySem.W.nsIn K mainGlobals "_law_parted" = some (some (.ref f10)))
    (l10 : K.lookup f10 = some ⟨oc10, od10, .func (PySem.W.fnOf "_law_parted" "_law_parted" (defArgs s_law_parted) (defBody s_law_parted) (defScope s_law_parted) .none kV10 dc10 pm10 an10 cd10 ct10), sl10⟩)
    (c10 : PySem.W.codeIn K cd10 "_law_parted" = true)
    (k10 : PySem.W.keepIn K (.ref f10) = true)
    (a11 : PySem.W.nsIn K mainGlobals "_law_still" = some (some (.ref f11)))
    (l11 : K.lookup f11 = some ⟨oc11, od11, .func (PySem.W.fnOf "_law_still" "_law_still" (defArgs s_law_still) (defBody s_law_still) (defScope s_law_still) .none kV11 dc11 pm11 an11 cd11 ct11), sl11⟩)
    (c11 : PySem.W.codeIn K cd11 "_law_still" = true)
    (k11 : PySem.W.keepIn K (.ref f11) = true)
    (a12 : PySem.W.nsIn K mainGlobals "_law_term" = some (some (.ref f12)))
    (l12 : K.lookup f12 = some ⟨oc12, od12, .func (PySem.W.fnOf "_law_term" "_law_term" (defArgs s_law_term) (defBody s_law_term) (defScope s_law_term) .none kV12 dc12 pm12 an12 cd12 ct12), sl12⟩)
    (c12 : PySem.W.codeIn K cd12 "_law_term" = true)
    (k12 : PySem.W.keepIn K (.ref f12) = true)
    (a13 : PySem.W.nsIn K mainGlobals "_law_kids" = some (some (.ref f13)))
    (l13 : K.lookup f13 = some ⟨oc13, od13, .func (PySem.W.fnOf "_law_kids" "_law_kids" (defArgs s_law_kids) (defBody s_law_kids) (defScope s_law_kids) .none kV13 dc13 pm13 an13 cd13 ct13), sl13⟩)
    (c13 : PySem.W.codeIn K cd13 "_law_kids" = true)
    (k13 : PySem.W.keepIn K (.ref f13) = true)
    (a14 : PySem.W.nsIn K mainGlobals "_law_measured" = some (some (.ref f14)))
    (l14 : K.lookup f14 = some ⟨oc14, od14, .func (PySem.W.fnOf "_law_measured" "_law_measured" (defArgs s_law_measured) (defBody s_law_measured) (defScope s_law_measured) .none kV14 dc14 pm14 an14 cd14 ct14), sl14⟩)
    (c14 : PySem.W.codeIn K cd14 "_law_measured" = true)
    (k14 : PySem.W.keepIn K (.ref f14) = true)
    (a15 : PySem.W.nsIn K mainGlobals "_law_great" = some (some (.ref f15)))
    (l15 : K.lookup f15 = some ⟨oc15, od15, .func (PySem.W.fnOf "_law_great" "_law_great" (defArgs s_law_great) (defBody s_law_great) (defScope s_law_great) .none kV15 dc15 pm15 an15 cd15 ct15), sl15⟩)
    (c15 : PySem.W.codeIn K cd15 "_law_great" = true)
    (k15 : PySem.W.keepIn K (.ref f15) = true)
    (a16 : PySem.W.nsIn K mainGlobals "_law_thing" = some (some (.ref f16)))
    (l16 : K.lookup f16 = some ⟨oc16, od16, .func (PySem.W.fnOf "_law_thing" "_law_thing" (defArgs s_law_thing) (defBody s_law_thing) (defScope s_law_thing) .none kV16 dc16 pm16 an16 cd16 ct16), sl16⟩)
    (c16 : PySem.W.codeIn K cd16 "_law_thing" = true)
    (k16 : PySem.W.keepIn K (.ref f16) = true)
    (a17 : PySem.W.nsIn K mainGlobals "_law_book" = some (some (.ref f17)))
    (l17 : K.lookup f17 = some ⟨oc17, od17, .func (PySem.W.fnOf "_law_book" "_law_book" (defArgs s_law_book) (defBody s_law_book) (defScope s_law_book) .none kV17 dc17 pm17 an17 cd17 ct17), sl17⟩)
    (c17 : PySem.W.codeIn K cd17 "_law_book" = true)
    (k17 : PySem.W.keepIn K (.ref f17) = true)
    (a18 : PySem.W.nsIn K mainGlobals "_law_rule" = some (some (.ref f18)))
    (l18 : K.lookup f18 = some ⟨oc18, od18, .func (PySem.W.fnOf "_law_rule" "_law_rule" (defArgs s_law_rule) (defBody s_law_rule) (defScope s_law_rule) .none kV18 dc18 pm18 an18 cd18 ct18), sl18⟩)
    (c18 : PySem.W.codeIn K cd18 "_law_rule" = true)
    (k18 : PySem.W.keepIn K (.ref f18) = true)
    (a19 : PySem.W.nsIn K mainGlobals "_law_rows" = some (some (.ref f19)))
    (l19 : K.lookup f19 = some ⟨oc19, od19, .func (PySem.W.fnOf "_law_rows" "_law_rows" (defArgs s_law_rows) (defBody s_law_rows) (defScope s_law_rows) .none kV19 dc19 pm19 an19 cd19 ct19), sl19⟩)
    (c19 : PySem.W.codeIn K cd19 "_law_rows" = true)
    (k19 : PySem.W.keepIn K (.ref f19) = true)
    (a20 : PySem.W.nsIn K mainGlobals "_law_told" = some (some (.ref f20)))
    (l20 : K.lookup f20 = some ⟨oc20, od20, .func (PySem.W.fnOf "_law_told" "_law_told" (defArgs s_law_told) (defBody s_law_told) (defScope s_law_told) .none kV20 dc20 pm20 an20 cd20 ct20), sl20⟩)
    (c20 : PySem.W.codeIn K cd20 "_law_told" = true)
    (k20 : PySem.W.keepIn K (.ref f20) = true)
    (a21 : PySem.W.nsIn K mainGlobals "_law_all" = some (some (.ref f21)))
    (l21 : K.lookup f21 = some ⟨oc21, od21, .func (PySem.W.fnOf "_law_all" "_law_all" (defArgs s_law_all) (defBody s_law_all) (defScope s_law_all) .none kV21 dc21 pm21 an21 cd21 ct21), sl21⟩)
    (c21 : PySem.W.codeIn K cd21 "_law_all" = true)
    (k21 : PySem.W.keepIn K (.ref f21) = true)
    (a22 : PySem.W.nsIn K mainGlobals "law" = some (some (.ref f22)))
    (l22 : K.lookup f22 = some ⟨oc22, od22, .func (PySem.W.fnOf "law" "law" (defArgs s_law) (defBody s_law) (defScope s_law) .none kV22 dc22 pm22 an22 cd22 ct22), sl22⟩)
    (c22 : PySem.W.codeIn K cd22 "law" = true)
    (k22 : PySem.W.keepIn K (.ref f22) = true)
    (z_dict : PySem.W.nsIn K mainGlobals "dict" = some none)
    (z_int : PySem.W.nsIn K mainGlobals "int" = some none)
    (z_isinstance : PySem.W.nsIn K mainGlobals "isinstance" = some none)
    (z_len : PySem.W.nsIn K mainGlobals "len" = some none)
    (z_list : PySem.W.nsIn K mainGlobals "list" = some none)
    (z_max : PySem.W.nsIn K mainGlobals "max" = some none)
    (z_min : PySem.W.nsIn K mainGlobals "min" = some none)
    (z_range : PySem.W.nsIn K mainGlobals "range" = some none)
    (z_str : PySem.W.nsIn K mainGlobals "str" = some none)
    (g_RULES : PySem.W.nsIn K mainGlobals "RULES" = some (some (.ref t_RULES)))
    (lk_RULES : K.lookup t_RULES = some ⟨.type "dict", none, .dict es_RULES ep_RULES, #[]⟩)
    (sy_RULES : (t_RULES == sysModules) = false)
    (ks_RULES : rowsChk es_RULES.toList ["app", "rec", "carry", "first", "second"] = true)
    (rf_RULES : refsOf es_RULES.toList = [b0_RULES, b1_RULES, b2_RULES, b3_RULES, b4_RULES])
    (u0_RULES : K.lookup b0_RULES = some ⟨.type "tuple", d0_RULES, .seq i0_RULES n0_RULES, s0_RULES⟩)
    (v0_RULES : i0_RULES.toList = [Value.ref b0_0_RULES])
    (u0_0_RULES : K.lookup b0_0_RULES = some ⟨.type "tuple", d0_0_RULES, .seq i0_0_RULES n0_0_RULES, s0_0_RULES⟩)
    (v0_0_RULES : seqChk [.int 1, .str "fun", .str "fun"] i0_0_RULES = true)
    (u1_RULES : K.lookup b1_RULES = some ⟨.type "tuple", d1_RULES, .seq i1_RULES n1_RULES, s1_RULES⟩)
    (v1_RULES : i1_RULES.toList = [Value.ref b1_0_RULES, Value.ref b1_1_RULES])
    (u1_0_RULES : K.lookup b1_0_RULES = some ⟨.type "tuple", d1_0_RULES, .seq i1_0_RULES n1_0_RULES, s1_0_RULES⟩)
    (v1_0_RULES : seqChk [.int 4, .str "zero", .str "zero"] i1_0_RULES = true)
    (u1_1_RULES : K.lookup b1_1_RULES = some ⟨.type "tuple", d1_1_RULES, .seq i1_1_RULES n1_1_RULES, s1_1_RULES⟩)
    (v1_1_RULES : seqChk [.int 4, .str "next", .str "next"] i1_1_RULES = true)
    (u2_RULES : K.lookup b2_RULES = some ⟨.type "tuple", d2_RULES, .seq i2_RULES n2_RULES, s2_RULES⟩)
    (v2_RULES : i2_RULES.toList = [Value.ref b2_0_RULES])
    (u2_0_RULES : K.lookup b2_0_RULES = some ⟨.type "tuple", d2_0_RULES, .seq i2_0_RULES n2_0_RULES, s2_0_RULES⟩)
    (v2_0_RULES : seqChk [.int 3, .str "like", .str "like"] i2_0_RULES = true)
    (u3_RULES : K.lookup b3_RULES = some ⟨.type "tuple", d3_RULES, .seq i3_RULES n3_RULES, s3_RULES⟩)
    (v3_RULES : i3_RULES.toList = [Value.ref b3_0_RULES])
    (u3_0_RULES : K.lookup b3_0_RULES = some ⟨.type "tuple", d3_0_RULES, .seq i3_0_RULES n3_0_RULES, s3_0_RULES⟩)
    (v3_0_RULES : seqChk [.int 1, .str "pair", .str "first"] i3_0_RULES = true)
    (u4_RULES : K.lookup b4_RULES = some ⟨.type "tuple", d4_RULES, .seq i4_RULES n4_RULES, s4_RULES⟩)
    (v4_RULES : i4_RULES.toList = [Value.ref b4_0_RULES])
    (u4_0_RULES : K.lookup b4_0_RULES = some ⟨.type "tuple", d4_0_RULES, .seq i4_0_RULES n4_0_RULES, s4_0_RULES⟩)
    (v4_0_RULES : seqChk [.int 1, .str "pair", .str "second"] i4_0_RULES = true) : ∃ t, Txt K mg t :=
  ⟨⟨(), t_RULES⟩, ⟨⟨PySem.W.mg_none_of X G z_dict, PySem.W.mg_none_of X G z_int, PySem.W.mg_none_of X G z_isinstance, PySem.W.mg_none_of X G z_len, PySem.W.mg_none_of X G z_list, PySem.W.mg_none_of X G z_max, PySem.W.mg_none_of X G z_min, PySem.W.mg_none_of X G z_range, PySem.W.mg_none_of X G z_str, PySem.W.mg_of X G g_RULES⟩, ⟨f0, _, fun_mk (st := s_rule_of) l0 c0 k0, PySem.W.mg_of X G a0, (fun_mk (st := s_rule_of) l0 c0 k0).binds fun _ _ _ _ _ _ us hl => match us, hl with | [_, _], _ => rfl⟩, ⟨f1, _, fun_mk (st := s_law_draw) l1 c1 k1, PySem.W.mg_of X G a1, (fun_mk (st := s_law_draw) l1 c1 k1).binds fun _ _ _ _ _ _ us hl => match us, hl with | [_, _, _], _ => rfl⟩, ⟨f2, _, fun_mk (st := s_law_named) l2 c2 k2, PySem.W.mg_of X G a2, (fun_mk (st := s_law_named) l2 c2 k2).binds fun _ _ _ _ _ _ us hl => match us, hl with | [_], _ => rfl⟩, ⟨f3, _, fun_mk (st := s_law_pool) l3 c3 k3, PySem.W.mg_of X G a3, (fun_mk (st := s_law_pool) l3 c3 k3).binds fun _ _ _ _ _ _ us hl => match us, hl with | [_, _], _ => rfl⟩, ⟨f4, _, fun_mk (st := s_law_leaf) l4 c4 k4, PySem.W.mg_of X G a4, (fun_mk (st := s_law_leaf) l4 c4 k4).binds fun _ _ _ _ _ _ us hl => match us, hl with | [_, _, _, _], _ => rfl⟩, ⟨f5, _, fun_mk (st := s_law_kind) l5 c5 k5, PySem.W.mg_of X G a5, (fun_mk (st := s_law_kind) l5 c5 k5).binds fun _ _ _ _ _ _ us hl => match us, hl with | [_, _, _, _, _], _ => rfl⟩, ⟨f6, _, fun_mk (st := s_law_fun) l6 c6 k6, PySem.W.mg_of X G a6, (fun_mk (st := s_law_fun) l6 c6 k6).binds fun _ _ _ _ _ _ us hl => match us, hl with | [_, _, _, _, _], _ => rfl⟩, ⟨f7, _, fun_mk (st := s_law_pair) l7 c7 k7, PySem.W.mg_of X G a7, (fun_mk (st := s_law_pair) l7 c7 k7).binds fun _ _ _ _ _ _ us hl => match us, hl with | [_, _, _, _, _], _ => rfl⟩, ⟨f8, _, fun_mk (st := s_law_like) l8 c8 k8, PySem.W.mg_of X G a8, (fun_mk (st := s_law_like) l8 c8 k8).binds fun _ _ _ _ _ _ us hl => match us, hl with | [_, _, _, _, _], _ => rfl⟩, ⟨f9, _, fun_mk (st := s_law_number) l9 c9 k9, PySem.W.mg_of X G a9, (fun_mk (st := s_law_number) l9 c9 k9).binds fun _ _ _ _ _ _ us hl => match us, hl with | [_, _, _, _, _], _ => rfl⟩, ⟨f10, _, fun_mk (st := s_law_parted) l10 c10 k10, PySem.W.mg_of X G a10, (fun_mk (st := s_law_parted) l10 c10 k10).binds fun _ _ _ _ _ _ us hl => match us, hl with | [_, _, _, _, _, _], _ => rfl⟩, ⟨f11, _, fun_mk (st := s_law_still) l11 c11 k11, PySem.W.mg_of X G a11, (fun_mk (st := s_law_still) l11 c11 k11).binds fun _ _ _ _ _ _ us hl => match us, hl with | [_, _, _, _, _, _], _ => rfl⟩, ⟨f12, _, fun_mk (st := s_law_term) l12 c12 k12, PySem.W.mg_of X G a12, (fun_mk (st := s_law_term) l12 c12 k12).binds fun _ _ _ _ _ _ us hl => match us, hl with | [_, _, _, _, _], _ => rfl⟩, ⟨f13, _, fun_mk (st := s_law_kids) l13 c13 k13, PySem.W.mg_of X G a13, (fun_mk (st := s_law_kids) l13 c13 k13).binds fun _ _ _ _ _ _ us hl => match us, hl with | [_], _ => rfl⟩, ⟨f14, _, fun_mk (st := s_law_measured) l14 c14 k14, PySem.W.mg_of X G a14, (fun_mk (st := s_law_measured) l14 c14 k14).binds fun _ _ _ _ _ _ us hl => match us, hl with | [_], _ => rfl⟩, ⟨f15, _, fun_mk (st := s_law_great) l15 c15 k15, PySem.W.mg_of X G a15, (fun_mk (st := s_law_great) l15 c15 k15).binds fun _ _ _ _ _ _ us hl => match us, hl with | [_], _ => rfl⟩, ⟨f16, _, fun_mk (st := s_law_thing) l16 c16 k16, PySem.W.mg_of X G a16, (fun_mk (st := s_law_thing) l16 c16 k16).binds fun _ _ _ _ _ _ us hl => match us, hl with | [_, _, _, _, _], _ => rfl⟩, ⟨f17, _, fun_mk (st := s_law_book) l17 c17 k17, PySem.W.mg_of X G a17, (fun_mk (st := s_law_book) l17 c17 k17).binds fun _ _ _ _ _ _ us hl => match us, hl with | [_, _, _], _ => rfl⟩, ⟨f18, _, fun_mk (st := s_law_rule) l18 c18 k18, PySem.W.mg_of X G a18, (fun_mk (st := s_law_rule) l18 c18 k18).binds fun _ _ _ _ _ _ us hl => match us, hl with | [_, _], _ => rfl⟩, ⟨f19, _, fun_mk (st := s_law_rows) l19 c19 k19, PySem.W.mg_of X G a19, (fun_mk (st := s_law_rows) l19 c19 k19).binds fun _ _ _ _ _ _ us hl => match us, hl with | [_, _], _ => rfl⟩, ⟨f20, _, fun_mk (st := s_law_told) l20 c20 k20, PySem.W.mg_of X G a20, (fun_mk (st := s_law_told) l20 c20 k20).binds fun _ _ _ _ _ _ us hl => match us, hl with | [_, _], _ => rfl⟩, ⟨f21, _, fun_mk (st := s_law_all) l21 c21 k21, PySem.W.mg_of X G a21, (fun_mk (st := s_law_all) l21 c21 k21).binds fun _ _ _ _ _ _ us hl => match us, hl with | [_, _], _ => rfl⟩, ⟨f22, _, fun_mk (st := s_law) l22 c22 k22, PySem.W.mg_of X G a22, (fun_mk (st := s_law) l22 c22 k22).binds fun _ _ _ _ _ _ us hl => match us, hl with | [_], _ => rfl⟩, ⟨b0_RULES, b1_RULES, b2_RULES, b3_RULES, b4_RULES, b0_0_RULES, b1_0_RULES, b1_1_RULES, b2_0_RULES, b3_0_RULES, b4_0_RULES, tabr_mk ["app", "rec", "carry", "first", "second"] [b0_RULES, b1_RULES, b2_RULES, b3_RULES, b4_RULES] sy_RULES lk_RULES ks_RULES rf_RULES, sqr_mk [b0_0_RULES] u0_RULES v0_RULES (by simp), sqk_mk u0_0_RULES v0_0_RULES, sqr_mk [b1_0_RULES, b1_1_RULES] u1_RULES v1_RULES (by simp), sqk_mk u1_0_RULES v1_0_RULES, sqk_mk u1_1_RULES v1_1_RULES, sqr_mk [b2_0_RULES] u2_RULES v2_RULES (by simp), sqk_mk u2_0_RULES v2_0_RULES, sqr_mk [b3_0_RULES] u3_RULES v3_RULES (by simp), sqk_mk u3_0_RULES v3_0_RULES, sqr_mk [b4_0_RULES] u4_RULES v4_RULES (by simp), sqk_mk u4_0_RULES v4_0_RULES⟩⟩⟩
theorem fin {l : PySem.W.OpenLaw} {w : World} {K : PySem.W.Frag} {mg : Str → Option Value} {t : Adr} {fa : Addr} (T : Txt K mg t) (hfa : mg "law" = some (.ref fa)) :
    ∃ fd : FuncData, (∀ (s : Shared) (v : Value), BindsTo s fd ⟨[v], []⟩ [("_law_script", v)]) ∧ ∀ base : Heap, K.In base → base.Ns mainGlobals mg → FnOk l.prog w K mg base CX0 225 fa fd ["_law_script"] (spLaw K) := by
  obtain ⟨f, fd, F, m, b⟩ := T.D_law
  have e := hfa.symm.trans m
  cases e
  refine ⟨fd, ?_, fun base _ _ => ?_⟩
  · obtain ⟨oc, od, kV, doc, pm, an, cdv, ct, osl, rfl, lk, hcd⟩ := F.ex
    exact fun s v => .of_eq rfl
  have c1 := c_law_draw (P := l.prog) (w := w) T.D_law_draw T.M
  have c2 := c_law_named (P := l.prog) (w := w) T.D_law_named T.M
  have c3 := c_law_pool T.D_law_pool T.M c1 c2
  have c4 := c_law_leaf T.D_law_leaf T.M c1
  obtain ⟨ck, ct⟩ := c_gen T.D_law_kind T.D_law_term T.D_law_fun T.D_law_pair T.D_law_like T.D_law_number T.D_law_parted T.D_law_still T.M c1 c4 7
  have k1 := c_law_kids (P := l.prog) (w := w) T.D_law_kids T.M
  have k2 := c_law_measured T.D_law_measured T.M k1 20
  have k3 := c_law_great T.D_law_great T.M k2
  have k4 := c_law_thing T.D_law_thing T.M c1 ck ct k3
  have k5 := c_law_book T.D_law_book T.M c1 ck ct
  have k6 := c_law_rule (P := l.prog) (w := w) T.D_law_rule T.M
  have k7 := c_law_rows T.D_law_rows T.M k6 k1
  have p1 := c_rule_of (P := l.prog) (w := w) T.D_rule_of T.M T.T_RULES
  have k8 := c_law_told (P := l.prog) (w := w) T.D_law_told T.M
  have k9 := c_law_all T.D_law_all T.M p1 k8
  exact c_law F T.M c1 c3 k5 k4 k7 p1 k8 k9
theorem walk {l : PySem.W.OpenLaw} {q : Program} {loose : List Str} {XP : (Str → Option Value) → Heap → Prop} {YP : World → Heap → Prop} {d : DefRec} {K : Params → PySem.W.Frag} (hn : l.most = some 63) (hdf : d.params.defaults = [])
    (hY : ∀ (w : World) (h : Heap), YP w h → (K w.params).In h)
    (F : ∀ (w : World) (mg : Str → Option Value) (fa : Addr) (h : Heap), (K w.params).In h → h.Ns mainGlobals mg → mg d.name = some (.ref fa) →
      ∃ fd : FuncData, (∀ (s : Shared) (u : Value), BindsTo s fd ⟨[u], []⟩ [("_law_script", u)]) ∧ ∀ base : Heap, (K w.params).In base → base.Ns mainGlobals mg → FnOk l.prog w (K w.params) mg base CX0 225 fa fd ["_law_script"] (spLaw (K w.params))) :
    PySem.W.WalkO q loose XP YP l.row.toRowW d [] (fun f vs => PySem.call f vs) :=
  L2.walk_of (n := 63) (k := 225) (x := "_law_script") (CX := fun _ => CX0) (sp := fun w => spLaw (K w.params)) hn (by decide) hdf ⟨by decide, by decide, fun _ => rfl⟩ hY F (fun _ _ a ns hl _ hS => ⟨a, ns, rfl, hS, hl, fun _ => rfl⟩) fun _ _ _ _ _ z => z
end K20
end
open PySem PySem.W PyProof.Rows
set_option maxRecDepth 100000 in
set_option maxHeartbeats 0 in
theorem PySem.Challenge.cw_keeper_k20_rules_holds : PySem.Challenge.rw_keeper_k20_rules.Holds := by
  w_on; o_law; k_head; (case hw => w_witness2)
  k_fill
  refine K20.walk (l := PySem.Challenge.rw_keeper_k20_rules) rfl rfl (fun w h Y => PySem.W.kIn_of Y) ?F
  case F =>
    intro w mg fa h KX G hmg
    have T : ∃ t, K20.Txt (L2.KOf KX) mg t := by
      dsimp only [L2.KOf]
      refine' K20.txt_mk KX G ?a0 ?l0 ?c0 ?k0 ?a1 ?l1 ?c1 ?k1 ?a2 ?l2 ?c2 ?k2 ?a3 ?l3 ?c3 ?k3 ?a4 ?l4 ?c4 ?k4 ?a5 ?l5 ?c5 ?k5 ?a6 ?l6 ?c6 ?k6 ?a7 ?l7 ?c7 ?k7 ?a8 ?l8 ?c8 ?k8 ?a9 ?l9 ?c9 ?k9 ?a10 ?l10 ?c10 ?k10 ?a11 ?l11 ?c11 ?k11 ?a12 ?l12 ?c12 ?k12 ?a13 ?l13 ?c13 ?k13 ?a14 ?l14 ?c14 ?k14 ?a15 ?l15 ?c15 ?k15 ?a16 ?l16 ?c16 ?k16 ?a17 ?l17 ?c17 ?k17 ?a18 ?l18 ?c18 ?k18 ?a19 ?l19 ?c19 ?k19 ?a20 ?l20 ?c20 ?k20 ?a21 ?l21 ?c21 ?k21 ?a22 ?l22 ?c22 ?k22 ?z_dict ?z_int ?z_isinstance ?z_len ?z_list ?z_max ?z_min ?z_range ?z_str ?g_RULES ?lk_RULES ?sy_RULES ?ks_RULES ?rf_RULES ?u0_RULES ?v0_RULES ?u0_0_RULES ?v0_0_RULES ?u1_RULES ?v1_RULES ?u1_0_RULES ?v1_0_RULES ?u1_1_RULES ?v1_1_RULES ?u2_RULES ?v2_RULES ?u2_0_RULES ?v2_0_RULES ?u3_RULES ?v3_RULES ?u3_0_RULES ?v3_0_RULES ?u4_RULES ?v4_RULES ?u4_0_RULES ?v4_0_RULES
      (case a0 => k_is)
      (case l0 => k_is)
      (case c0 => k_is)
      (case k0 => k_is)
      (case a1 => k_is)
      (case l1 => k_is)
      (case c1 => k_is)
      (case k1 => k_is)
      (case a2 => k_is)
      (case l2 => k_is)
      (case c2 => k_is)
      (case k2 => k_is)
      (case a3 => k_is)
      (case l3 => k_is)
      (case c3 => k_is)
      (case k3 => k_is)
      (case a4 => k_is)
      (case l4 => k_is)
      (case c4 => k_is)
      (case k4 => k_is)
      (case a5 => k_is)
      (case l5 => k_is)
      (case c5 => k_is)
      (case k5 => k_is)
      (case a6 => k_is)
      (case l6 => k_is)
      (case c6 => k_is)
      (case k6 => k_is)
      (case a7 => k_is)
      (case l7 => k_is)
      (case c7 => k_is)
      (case k7 => k_is)
      (case a8 => k_is)
      (case l8 => k_is)
      (case c8 => k_is)
      (case k8 => k_is)
      (case a9 => k_is)
      (case l9 => k_is)
      (case c9 => k_is)
      (case k9 => k_is)
      (case a10 => k_is)
      (case l10 => k_is)
      (case c10 => k_is)
      (case k10 => k_is)
      (case a11 => k_is)
      (case l11 => k_is)
      (case c11 => k_is)
      (case k11 => k_is)
      (case a12 => k_is)
      (case l12 => k_is)
      (case c12 => k_is)
      (case k12 => k_is)
      (case a13 => k_is)
      (case l13 => k_is)
      (case c13 => k_is)
      (case k13 => k_is)
      (case a14 => k_is)
      (case l14 => k_is)
      (case c14 => k_is)
      (case k14 => k_is)
      (case a15 => k_is)
      (case l15 => k_is)
      (case c15 => k_is)
      (case k15 => k_is)
      (case a16 => k_is)
      (case l16 => k_is)
      (case c16 => k_is)
      (case k16 => k_is)
      (case a17 => k_is)
      (case l17 => k_is)
      (case c17 => k_is)
      (case k17 => k_is)
      (case a18 => k_is)
      (case l18 => k_is)
      (case c18 => k_is)
      (case k18 => k_is)
      (case a19 => k_is)
      (case l19 => k_is)
      (case c19 => k_is)
      (case k19 => k_is)
      (case a20 => k_is)
      (case l20 => k_is)
      (case c20 => k_is)
      (case k20 => k_is)
      (case a21 => k_is)
      (case l21 => k_is)
      (case c21 => k_is)
      (case k21 => k_is)
      (case a22 => k_is)
      (case l22 => k_is)
      (case c22 => k_is)
      (case k22 => k_is)
      (case z_dict => k_is)
      (case z_int => k_is)
      (case z_isinstance => k_is)
      (case z_len => k_is)
      (case z_list => k_is)
      (case z_max => k_is)
      (case z_min => k_is)
      (case z_range => k_is)
      (case z_str => k_is)
      (case g_RULES => k_is)
      (case lk_RULES => k_is)
      (case sy_RULES => decide +kernel)
      (case ks_RULES => kernel_rfl)
      (case rf_RULES => rfl)
      (case u0_RULES => k_is)
      (case v0_RULES => rfl)
      (case u0_0_RULES => k_is)
      (case v0_0_RULES => decide +kernel)
      (case u1_RULES => k_is)
      (case v1_RULES => rfl)
      (case u1_0_RULES => k_is)
      (case v1_0_RULES => decide +kernel)
      (case u1_1_RULES => k_is)
      (case v1_1_RULES => decide +kernel)
      (case u2_RULES => k_is)
      (case v2_RULES => rfl)
      (case u2_0_RULES => k_is)
      (case v2_0_RULES => decide +kernel)
      (case u3_RULES => k_is)
      (case v3_RULES => rfl)
      (case u3_0_RULES => k_is)
      (case v3_0_RULES => decide +kernel)
      (case u4_RULES => k_is)
      (case v4_RULES => rfl)
      (case u4_0_RULES => k_is)
      (case v4_0_RULES => decide +kernel)
    obtain ⟨t, T⟩ := T
    exact K20.fin T hmg
