import PyProof.Rows.All
import Wide.All
import OpenK.AllK
import Wide.FinOn
import Lean
import PyProof.EqAt
import PyProof.EqKinds
import PyProof.TupleCall
import PyProof.ZipIter
import PyProof.Draws
import PyProof.TupleIter
import PySem.Value
import PyProof.NeKinds
import PyProof.ExcClass2
import PyProof.StationsW
import OpenK.KOwn
import KE.KIsAll
import PyProof.RulesAs
import PyProof.NsDelKeeps
import PyProof.PassesOwn
import PyProof.ExcArgsOwn
import PyProof.IsiH_list
import PyProof.EnumMake
import PyProof.EnumFor
import PyProof.WalksEnum
import PyProof.Rows.EnumRows
import PyProof.SumWalk
import PyProof.StrCalls
import PyProof.Rows.StrJoin2
import PyProof.WalkInts
import KE.KDictOf
import KE.KEqDict
import PyProof.EqLayable
import PyProof.P3Eq
import PyProof.MeetsIn
import PyProof.StrCalls6
import PyProof.StrLaws
import PyProof.StrLawsIn
import PyProof.StrLawsChain
import PyProof.MeetsStr2
import PyProof.StrOps2
import PyProof.CallStr
import KE.KIntText
import KE.KRevIter
import PyProof.Rows.StrInSeq3
import PyProof.Rows.SeqMore2
import KE.KNest
import KE.KNestM
import PyProof.FString
import PyProof.StrBlock
import PyProof.MaxThree
import PySem.Challenge.RW_keeper_k57_whole_read_of_shown
set_option Elab.async false
set_option linter.all false
set_option maxRecDepth 100000
set_option bootstrap.genMatcherCode false
set_option genSizeOf false
set_option genSizeOfSpec false
set_option maxHeartbeats 8000000
open PySem renaming wpAny_bind->zQ00,wpAny_pure->zQ02,wpAny_call_entry->gP,wpAny_field->dD,wpAny_holding->fW,wpAny_newObj_type->jV
open PySem.Heap renaming get?_push_of_some->zQ01,lt_size->zQ09,get?_push_size->zQ12,get?_update_other->iW,size_push->zQ27,get?_update_self->pk
open List renaming getElem?_eq_getElem->zQ03,mem_cons_self->bI,mem_cons_of_mem->ck,length_map->bD,length_cons->b_,size_toArray->cC,length_append->cS,not_mem_nil->zQ14,map_cons->cD,append_nil->eF,map_append->eW,getElem?_map->gs,mem_append_right->kx,mem_cons->zQ29,filterMap_cons->mI,length_take->jx,lookup_cons->jk,mem_of_getElem?->m_,take_of_length_le->rY,length_drop->jP,mem_of_mem_take->tR
open Nat renaming le_refl->zQ04,le_trans->cw,ne_of_lt->zQ18,lt_of_lt_of_le->gc,zero_le->zQ25
open Bool renaming and_eq_true->bF,false_ne_true->eE
noncomputable section
section
namespace L2
open PySem PySem.Spec PyProof.Rows
theorem gu{n:Nat}(h:Nat.ble n 16777216=true):n<=sizeLine:=cw (Nat.le_of_ble_eq_true h) (by decide)
def HB(base:Heap)(A:Around):Prop:=A.handled=none\/∃a oe vs,A.handled=some (.ref a)/\base.get? a=some oe/\oe.data= .fields vs/\vs[2]?=some .none
def HBp(base:Heap)(pn:List (Addr×Obj))(A:Around):Prop:=A.handled=none\/∃a oe vs,A.handled=some (.ref a)/\(base.get? a=some oe\/(a,oe)∈pn)/\oe.data= .fields vs/\vs[2]?=some .none
theorem HB.toP{base:Heap}{pn:List (Addr×Obj)}{A:Around}(h:HB base A):HBp base pn A:=by
 rcases h with h|⟨a,oe,vs,b,c,d⟩;·exact .inl h
 ·exact .inr ⟨a,oe,vs,b, .inl c,d⟩
theorem AN:entryFor table "proto.unchain"=some Builtin.«proto.unchain»:=entryFor_of_tree (by kernel_rfl)
section
variable{prog:Program}{w:World}{A:Around}{E:Value->Shared->Prop}{s:Shared}{base:Heap}
theorem HB.mono{h h':Heap}(hb:HB h A)(e:∀a o,A.handled=some (.ref a)->h.get? a=some o->h'.get? a=some o):HB h' A:=by
 rcases hb with hb|⟨a,oe,vs,b,c,d⟩;·exact .inl hb
 ·exact .inr ⟨a,oe,vs,b,e a oe b c,d⟩
theorem A_{n a:Addr}{oe:Obj}{vs:Array Value}{Q:Value->Shared->Prop}(he:s.heap.get? a=some oe)(hd:oe.data= .fields vs)(h2:vs[2]?=some .none)(h:Q .none s):wpAny (model prog w) A (runValue (.builtin "proto.unchain" ⟨[.ref n, .ref a, .ref a, .bool false],[]⟩)) Q E s:=by refine wpAny_runValue (codeAny_builtin AN ?_);show wpAny _ _ (field (.ref a) 2>>=_) _ _ s;refine zQ00 (dD he hd h2 ?_);rw[if_pos (show(Value.none==Value.none)=true by rfl)];exact zQ02 h
theorem eI{f:Type}{Q:f->Shared->Prop}(hb:HB s.heap A)(d:∀h' e,(∀b o,s.heap.get? b=some o->h'.get? b=some o)->(∃o,h'.get? e=some o/\o.cls= .type "StopIteration")->E (.ref e) {s with heap:=h'}):wpAny (model prog w) A (newExc (.type "StopIteration") []>>=λe=>(raiseNew e:Sem f)) Q E s:=by
 refine zQ00 ?_;simp only[newExc,newTuple];refine zQ00 (jV ?_ (by size_fits));refine zQ00 (m:=firstArgMember _ _) (wpAny_of_eq (a:=Value.none) (by first|rfl|(simp only[firstArgMember];rfl)) ?_);refine jV ?_ (by size_fits);simp only[raiseNew];refine zQ00 (wpAny_handled ?_);rcases hb with hb|⟨a,oe,vs,hb,g,h,i⟩;·rw[hb];refine zQ00 (zQ02 (wpAny_throw (d _ _ (λb o e=>zQ01 _ (zQ01 _ e)) ⟨_,zQ12 _ rfl,rfl⟩)))
 ·rw[hb];have c:=g;have lt:=zQ09 c;have ne:a≠(s.heap.push {cls:= .type "tuple",data:= .seq #[]}).objs.size:=by rw[zQ27];exact zQ18 (Nat.lt_succ_of_lt lt)
  dsimp only;rw[if_pos (by simpa using ne)];refine zQ00 (fW (A_ (zQ01 _ (zQ01 _ c)) h i ?_));refine zQ00 ?_;show wpAny (model prog w) A (setField (.ref _) 2 (.ref a)) _ _ _;refine wpAny_setField (zQ12 _ rfl) rfl (by simp;lia) (wpAny_throw (d _ _ (λb o e=>?_) ⟨_,pk _ (zQ12 _ rfl) (Obj.isFreed_of_fields (Obj.data_mapFields rfl _)),Obj.cls_mapFields _ _⟩));rw[iW _ _ ?_];·exact zQ01 _ (zQ01 _ e)
  ·have :=zQ09 e;intro z;rw[<-z,zQ27]at this;exact Nat.not_succ_lt_self this
theorem jI{Q:Bool->Shared->Prop}{h':Heap}{e:Addr}(he:∃o,h'.get? e=some o/\o.cls= .type "StopIteration")(h:Q true {s with heap:=h'}):wpAny (model prog w) A (isInstance (.ref e) (.type "StopIteration")) Q E {s with heap:=h'}:=by obtain⟨o,ho,hc⟩:=he;exact wpAny_isInstance (T:="StopIteration") (b:=true) ⟨o,ho,hc⟩ isSubtype_stop h
theorem HB.upd{it:Addr}{f:Obj->Obj}(hb:HB s.heap A)(d:∀a,A.handled=some (.ref a)->a≠it):HB (s.heap.update it f) A:=hb.mono λa o b c=>(iW _ _ (Ne.symm (d a b))).trans c
theorem lM{it:Addr}{f:Obj->Obj}{h':Heap}(k:∀b o,(s.heap.update it f).get? b=some o->h'.get? b=some o):Heap.ExtBut it s.heap h':=λb o hb e=>k b o ((iW _ _ (Ne.symm hb)).trans e)
theorem jW{it l:Addr}{i:Nat}{items:Array Value}{Q:Option Value->Shared->Prop}(hb:HB s.heap A)(f:∀a,A.handled=some (.ref a)->a≠it)(b:s.heap.IsListIter it l i)(hl:s.heap.IsList l items)(d:items[i]?=none)(c:∀h',Heap.ExtBut it s.heap h'->Q none {s with heap:=h'}):wpAny (model prog w) A (pyNext (.ref it)) Q E s:=by obtain⟨o,ho,hc,hd⟩:=id b;obtain⟨ol,hol,_,nl,hdl⟩:=hl;unfold pyNext;refine zQ00 (wpAny_attempt (wpAny_callSpecial?_slot (name:=Str.ofString "__next__") b.typeIs slot_listiter_next (gP slot_listiter_next b.typeIs entry_listiter_next ?_ (args_listiter_next _))));show wpAny (model prog w) _ (field (.ref it) 0>>=_) _ _ s;refine zQ00 (dD ho hd (x:= .ref l) rfl ?_);show wpAny (model prog w) _ (if(Value.ref l==Value.none)=true then _ else _) _ _ s;rw[if_neg (show¬(Value.ref l==Value.none)=true from eE)];show wpAny (model prog w) _ (field (.ref it) 1>>=_) _ _ s;refine zQ00 (dD ho hd (x:= .int i 0) rfl ?_);show wpAny (model prog w) _ (seqItems? (.ref l)>>=_) _ _ s;refine zQ00 (wpAny_seqItems hol hdl ?_);simp only[Int.toNat_natCast,d];refine zQ00 (wpAny_rule (zQ00 (wpAny_setField ho hd (by simp) ?_)));exact eI (A:=A.in1) (hb.upd f) λh' e k he=>zQ00 (jI he (zQ02 (c h' (lM k))))
theorem next_tuple_end{it l:Addr}{i:Nat}{items:Array Value}{Q:Option Value->Shared->Prop}(hb:HB s.heap A)(f:∀a,A.handled=some (.ref a)->a≠it)(b:s.heap.IsTupleIter it l i)(hl:s.heap.IsTuple l items)(d:items[i]?=none)(c:∀h',Heap.ExtBut it s.heap h'->Q none {s with heap:=h'}):wpAny (model prog w) A (pyNext (.ref it)) Q E s:=by obtain⟨o,ho,hc,hd⟩:=id b;obtain⟨ol,hol,_,nl,hdl⟩:=hl;unfold pyNext;refine zQ00 (wpAny_attempt (wpAny_callSpecial?_slot (name:=Str.ofString "__next__") b.typeIs F.slot_tuple_iterator_next (gP F.slot_tuple_iterator_next b.typeIs F.entry_tuple_iterator_next ?_ (F.args_tuple_iterator_next_1 _))));show wpAny (model prog w) _ (field (.ref it) 0>>=_) _ _ s;refine zQ00 (dD ho hd (x:= .ref l) rfl ?_);show wpAny (model prog w) _ (if(Value.ref l==Value.none)=true then _ else _) _ _ s;rw[if_neg (show¬(Value.ref l==Value.none)=true from eE)];show wpAny (model prog w) _ (field (.ref it) 1>>=_) _ _ s;refine zQ00 (dD ho hd (x:= .int i 0) rfl ?_);show wpAny (model prog w) _ (seqItems? (.ref l)>>=_) _ _ s;refine zQ00 (wpAny_seqItems hol hdl ?_);simp only[Int.toNat_natCast,d];refine zQ00 (wpAny_rule (zQ00 (wpAny_setField ho hd (by simp) ?_)));exact eI (A:=A.in1) (hb.upd f) λh' e k he=>zQ00 (jI he (zQ02 (c h' (lM k))))
theorem qT{it:Addr}{x left step:Int}{Q:Option Value->Shared->Prop}(hb:HB s.heap A)(a:IsRangeIter s.heap it x left step)(hleft:left<=0)(d:∀h',Heap.ExtBut it s.heap h'->Q none {s with heap:=h'}):wpAny (model prog w) A (pyNext (.ref it)) Q E s:=by have hT:s.TypeIs (.ref it) "range_iterator":=⟨_,a,rfl⟩;unfold pyNext;refine zQ00 (wpAny_attempt (wpAny_callSpecial?_slot (name:=Str.ofString "__next__") hT F.slot_range_iterator_next (gP F.slot_range_iterator_next hT F.entry_range_iterator_next ?_ (F.args_range_iterator_next_1 _))));show wpAny (model prog w) _ (field (.ref it) 0>>=_) _ _ s;refine zQ00 (dD a rfl (x:=rawInt x) rfl ?_);show wpAny (model prog w) _ (field (.ref it) 1>>=_) _ _ s;refine zQ00 (dD a rfl (x:=rawInt left) rfl ?_);show wpAny (model prog w) _ (field (.ref it) 2>>=_) _ _ s;refine zQ00 (dD a rfl (x:=rawInt step) rfl ?_);show wpAny (model prog w) _ (if left<=0 then _ else _) _ _ s;rw[if_pos hleft];refine zQ00 (wpAny_rule ?_);refine zQ00 ?_;exact eI (A:=A.in1) hb λh' e k he=>zQ00 (jI he (zQ02 (d h' λb o _ c=>k b o c)))
theorem sG{it:Addr}{x:Str}{t:Tok}{i:Nat}{Q:Option Value->Shared->Prop}(hb:HB s.heap A)(f:∀a,A.handled=some (.ref a)->a≠it)(b:s.heap.IsStrIter it "str_ascii_iterator" x t i)(d:x.cps[i]?=none)(c:∀h',Heap.ExtBut it s.heap h'->Q none {s with heap:=h'}):wpAny (model prog w) A (pyNext (.ref it)) Q E s:=by obtain⟨o,ho,hc,hd⟩:=id b;unfold pyNext;refine zQ00 (wpAny_attempt (wpAny_callSpecial?_slot (name:=Str.ofString "__next__") b.typeIs F.slot_str_ascii_iterator_next (gP F.slot_str_ascii_iterator_next b.typeIs F.entry_str_ascii_iterator_next ?_ (F.args_str_ascii_iterator_next_1 _))));show wpAny (model prog w) _ (field (.ref it) 0>>=_) _ _ s;refine zQ00 (dD ho hd (x:= .str x t) rfl ?_);show wpAny (model prog w) _ (field (.ref it) 1>>=_) _ _ s;refine zQ00 (dD ho hd (x:= .int i 0) rfl ?_);simp only[Int.toNat_natCast,d];refine zQ00 (wpAny_rule (zQ00 (wpAny_setField ho hd (by simp) (zQ00 (wpAny_letGo ?_)))));exact eI (A:=A.in1) (hb.upd f) λh' e k he=>zQ00 (jI he (zQ02 (c h' (lM k))))
theorem uo{it:Addr}{x:Str}{t:Tok}{i:Nat}{Q:Option Value->Shared->Prop}(hb:HB s.heap A)(f:∀a,A.handled=some (.ref a)->a≠it)(b:s.heap.IsStrIter it "str_iterator" x t i)(d:x.cps[i]?=none)(c:∀h',Heap.ExtBut it s.heap h'->Q none {s with heap:=h'}):wpAny (model prog w) A (pyNext (.ref it)) Q E s:=by obtain⟨o,ho,hc,hd⟩:=id b;unfold pyNext;refine zQ00 (wpAny_attempt (wpAny_callSpecial?_slot (name:=Str.ofString "__next__") b.typeIs F.slot_str_iterator_next (gP F.slot_str_iterator_next b.typeIs F.entry_str_iterator_next ?_ (F.args_str_iterator_next_1 _))));show wpAny (model prog w) _ (field (.ref it) 0>>=_) _ _ s;refine zQ00 (dD ho hd (x:= .str x t) rfl ?_);show wpAny (model prog w) _ (field (.ref it) 1>>=_) _ _ s;refine zQ00 (dD ho hd (x:= .int i 0) rfl ?_);simp only[Int.toNat_natCast,d];refine zQ00 (wpAny_rule (zQ00 (wpAny_setField ho hd (by simp) (zQ00 (wpAny_letGo ?_)))));exact eI (A:=A.in1) (hb.upd f) λh' e k he=>zQ00 (jI he (zQ02 (c h' (lM k))))
theorem MB{t:Addr}{items:Array Value}{Q:List Value->Shared->Prop}(hb:HB s.heap A)(ht:s.heap.IsTuple t items)(j:∀h',Heap.ExtBut s.heap.objs.size s.heap h'->Q items.toList {s with heap:=h'}):wpAny (model prog w) A (unpackItems (.ref t) items.size none) Q E s:=by
 have hlt:t≠s.heap.objs.size:=by obtain⟨o,ho,_⟩:=ht;exact zQ18 (zQ09 ho)
 have g:∀a,A.handled=some (.ref a)->a≠s.heap.objs.size:=λa c=>by
  rcases hb with hb|⟨q,oe,vs,h,i,_⟩;·rw[hb]at c;cases c
  ·rw[h]at c;cases c;exact zQ18 (zQ09 i)
 unfold unpackItems;refine zQ00 ?_;unfold notIterableAtAll;refine zQ00 (wpAny_specialOf ht.typeIs F.slot_tuple_iter.lookup (zQ02 ?_));simp only[Bool.false_eq_true,if_false];refine zQ00 (fW (wpAny_pyIter_tuple ht ?_));refine zQ00 (fW (wpAny_draw_tuple hlt items.size 0 _ _ ⟨_,zQ12 _ rfl,rfl,rfl⟩ (ht.push _) (by lia) λf m d=>?_));rw[show List.take items.size (List.drop 0 items.toList)=items.toList by rw[List.drop_zero];exact rY (by simp),if_neg (by simp)];have n:f.IsTuple t items:=(ht.push _).extBut d.extBut hlt;have k:HB f A:=hb.mono λa o c eo=>d.extBut a o (g a c) (zQ01 _ eo);refine zQ00 (fW (next_tuple_end (s:={s with heap:=f}) k g m n (by simp) λp l=>?_));simp only[Option.isSome_none,Bool.false_eq_true,if_false];exact zQ02 (j p λb o hb e=>l b o hb (d.extBut b o hb (zQ01 _ e)))
theorem MG{env:Env}{elts:List Expr}{c}{b:Pos}{t:Addr}{items:Array Value}{Q:Unit->Shared->Prop}(hb:HB s.heap A)(ht:s.heap.IsTuple t items)(hn:(assignEach elts env).length=items.size)(a:(assignEach elts env).findIdx? (·.1)=none)(h:∀h',Heap.ExtBut s.heap.objs.size s.heap h'->wpAny (model prog w) A (assignInOrder ((assignEach elts env).map (·.2)) items.toList) Q E {s with heap:=h'}):wpAny (model prog w) A (assign (.Tuple elts c b) env (.ref t)) Q E s:=by rw[arm_assign_Tuple];refine zQ00 (wpAny_standAt ?_);unfold unpack;rw[hn,a];exact zQ00 (fW (MB hb ht h))
end
theorem DR{prog:Program}{w:World}{A:Around}{s:Shared}{Q:Option Value->Shared->Prop}{E:Value->Shared->Prop}{I:Addr}{a c:Int}{n i:Nat}(hi:i<n)(st:IsRangeIter s.heap I (a+(i:Nat)*c) ((n:Int)-(i:Nat)) c)(d:∀v h' tk,(∃t,v= .int (a+i*c) t)->IsRangeIter h' I (a+((i+1:Nat):Int)*c) ((n:Int)-((i+1:Nat):Int)) c->(∀b o,b∉[I]->s.heap.get? b=some o->h'.get? b=some o)->Q (some v) {s with heap:=h',toks:=tk}):wpAny (model prog w) A (pyNext (.ref I)) Q E s:=by refine wpAny_pyNext_range_item st (by lia) λh' f g=>d _ h' _ ⟨_,rfl⟩ ?_ λb o hb e=>g.extBut b o (λh=>hb (by simp[h])) e;rw[show a+((i+1:Nat):Int)*c=a+(i:Int)*c+c by push_cast;rw[Int.add_mul,Int.one_mul,Int.add_assoc],show(n:Int)-((i+1:Nat):Int)=(n:Int)-(i:Int)-1 by push_cast;lia];exact f
noncomputable def nq(A:Around):List Addr:=match A.handled with|some (.ref a)=>[a]|_=>[]
theorem ub{A:Around}{d:Addr}(h:d∈nq A):A.handled=some (.ref d):=by
 unfold nq at h;split at h;·rename_i a e;rw[List.mem_singleton.mp h];exact e
 ·cases h
theorem HB.frame{A:Around}{h h':Heap}(hb:HB h A)(k:∀b∈nq A,∀o,h.get? b=some o->h'.get? b=some o):HB h' A:=hb.mono λa o c eo=>k a (by unfold nq;rw[c];simp) o eo
theorem rA{prog:Program}{w:World}{A:Around}(I c:Addr)(hne:c≠I)(items:Array Value)(j:∀a,A.handled=some (.ref a)->a≠I):Walks prog w A I (I::c::nq A) [I] items.size (λi v=>items[i]?=some v) (λi h=>h.IsListIter I c i/\h.IsList c items/\HB h A)where
 sub:=λb hb=>by simp at hb;simp[hb]
 frame:=λ_ _ _ st f=>⟨st.1.at λo e=>f I (by simp) o e,st.2.1.at λo e=>f c (by simp) o e,st.2.2.frame λb hb=>f b (by simp[hb])⟩;item:=λi s Q E hi st d=>by refine wpAny_pyNext_list_item st.1 st.2.1 (x:=items[i]) (by simp[hi]) λh' l g=>?_;exact d _ h' s.toks (by simp[hi]) ⟨l,st.2.1.extBut g.extBut hne,st.2.2.mono λa o k eo=>g.extBut a o (j a k) eo⟩ λb o hb e=>g.extBut b o (λh=>hb (by simp[h])) e
 done:=λs Q E st d=>jW st.2.2 j st.1 st.2.1 (by simp) λh' he'=>d h' s.toks λb o hb e=>he' b o (λh=>hb (by simp[h])) e;self:=λ_ _ _ _ st d=>wpAny_pyIter_listiter st.1 d
noncomputable abbrev Key:=Sum Int Str
noncomputable def uR:Key->Value->Bool| .inl k,v=>Value.isInt k v| .inr x,v=>Value.isStrOf x v
noncomputable def aaM(w:World):Key->Int| .inl k=>hashInt k| .inr x=>hashStr w x
theorem b9:∀{k:Key}{v:Value},uR k v=true->(∃i t,k=Sum.inl i/\v=Value.int i t)\/(∃x t,k=Sum.inr x/\v=Value.str x t)| .inl i,v,h=>by obtain⟨t,e⟩:=Value.isInt_shape (k:=i) (v:=v) h;exact .inl ⟨i,t,rfl,e⟩| .inr x,v,h=>by obtain⟨t,e⟩:=Value.isStrOf_shape (x:=x) (v:=v) h;exact .inr ⟨x,t,rfl,e⟩
theorem Gr(i:Int)(t:Tok):uR (.inl i) (.int i t)=true:=by simp[uR,Value.isInt]
theorem Gj(x:Str)(t:Tok):uR (.inr x) (.str x t)=true:=by simp[uR,Value.isStrOf]
theorem SK(a b:Int):decide ((Sum.inl a:Key)=Sum.inl b)=(a==b):=by
 by_cases e:a=b;·subst e;simp
 ·have h:¬(Sum.inl a:Key)=Sum.inl b:=λq=>e (Sum.inl.inj q);rw[decide_eq_false h];exact(beq_eq_false_iff_ne.mpr e).symm
theorem QN(a b:Str):decide ((Sum.inr a:Key)=Sum.inr b)=decide (a=b):=by
 by_cases e:a=b;·subst e;simp
 ·have h:¬(Sum.inr a:Key)=Sum.inr b:=λq=>e (Sum.inr.inj q);rw[decide_eq_false h,decide_eq_false e]
theorem QF(a:Int)(b:Str):decide ((Sum.inl a:Key)=Sum.inr b)=false:=decide_eq_false (λq=>nomatch q)
theorem Tt(a:Str)(b:Int):decide ((Sum.inr a:Key)=Sum.inl b)=false:=decide_eq_false (λq=>nomatch q)
noncomputable def dh(prog:Program)(w:World):PySem.KeyKind prog w Key where
 is:=uR;hash:=aaM w;inj:=λv a b ha hb=>by
  rcases b9 ha with⟨i,t,rfl,rfl⟩|⟨x,t,rfl,rfl⟩
  ·rcases b9 hb with⟨j,u,rfl,e⟩|⟨y,u,rfl,e⟩;·injection e with c _;rw[c]
   ·exact nomatch e
  ·rcases b9 hb with⟨j,u,rfl,e⟩|⟨y,u,rfl,e⟩;·exact nomatch e
   ·injection e with c _;rw[c]
 byValue:=λk v h=>by rcases b9 h with⟨i,t,rfl,rfl⟩|⟨x,t,rfl,rfl⟩<;>rfl
 pyHash:=λhv h=>by
  rcases b9 hv with⟨i,t,rfl,rfl⟩|⟨x,t,rfl,rfl⟩;·exact wpAny_pyHash_int h
  ·exact wpAny_pyHash_str h
 eqBool:=λd hv h=>by
  rcases b9 d with⟨i,t,rfl,rfl⟩|⟨x,t,rfl,rfl⟩
  ·rcases b9 hv with⟨j,u,rfl,rfl⟩|⟨y,u,rfl,rfl⟩;·rw[SK]at h;exact wpAny_eqBool_int h
   ·rw[QF]at h;exact SeqAt.EqAt.int_str i t y u _ _ _ _ h
  ·rcases b9 hv with⟨j,u,rfl,rfl⟩|⟨y,u,rfl,rfl⟩;·rw[Tt]at h;exact SeqAt.EqAt.str_int x t j u _ _ _ _ h
   ·rw[QN]at h;exact wpAny_eqBool_str h
 «strs»:=λk x t v h=>by
  rcases b9 h with⟨i,u,rfl,e⟩|⟨y,u,rfl,e⟩;·exact nomatch e
  ·injection e with c _;subst c;cases v<;>rfl
theorem BN(prog:Program)(w:World)(i:Int)(t:Tok):(dh prog w).is (.inl i) (.int i t)=true:=Gr i t
theorem BM(prog:Program)(w:World)(x:Str)(t:Tok):(dh prog w).is (.inr x) (.str x t)=true:=Gj x t
inductive V where|bA|bl(b:Bool)|int(i:Int)|str(x:Str)|Gx(b:Array UInt8)|PQ(b:UInt64)|ref(a:Addr)|ty(n:String)deriving DecidableEq
noncomputable def RelV:V->Value->Prop| .bA,u=>u=Value.none| .bl b,u=>u=Value.bool b| .int i,u=>∃t,u=Value.int i t| .str x,u=>∃t,u=Value.str x t| .Gx b,u=>∃t,u=Value.bytes b t| .PQ b,u=>∃t,u=Value.float b t| .ref a,u=>u=Value.ref a| .ty n,u=>u=Value.type n
noncomputable abbrev Vals:List V->List Value->Prop:=Paired RelV
theorem Vals.length{xs:List V}{us:List Value}(r:Vals xs us):xs.length=us.length:=Paired.length r
theorem Vals.get:∀{xs:List V}{us:List Value}{i:Nat}{x:V},Vals xs us->xs[i]?=some x->∃u,us[i]?=some u/\RelV x u|_,_,_,_, .nil,e=>by simp at e|_,_,0,_, .cons r _,e=>by simp at e;subst e;exact⟨_,rfl,r⟩|_,_,i+1,x, .cons _ t,e=>by obtain⟨u,h1,h2⟩:=Vals.get (i:=i) (x:=x) t (by simpa using e);exact⟨u,by simpa using h1,h2⟩
theorem Vals.set{x:V}{u:Value}(r:RelV x u):∀{xs:List V}{us:List Value}(i:Nat),Vals xs us->Vals (xs.set i x) (us.set i u)|_,_,_, .nil=> .nil|_,_,0, .cons _ t=> .cons r t|_,_,i+1, .cons q t=> .cons q (Vals.set r i t)
theorem Vals.append:∀{xs ys:List V}{us ws:List Value},Vals xs us->Vals ys ws->Vals (xs++ys) (us++ws)|_,_,_,_, .nil,s=>s|_,_,_,_, .cons r t,s=> .cons r (Vals.append t s)
theorem Vals.take:∀{xs:List V}{us:List Value}(n:Nat),Vals xs us->Vals (xs.take n) (us.take n)|_,_,0,_=> .nil|_,_,_+1, .nil=> .nil|_,_,n+1, .cons r t=> .cons r (Vals.take n t)
theorem Vals.drop:∀{xs:List V}{us:List Value}(n:Nat),Vals xs us->Vals (xs.drop n) (us.drop n)|_,_,0,r=>r|_,_,_+1, .nil=> .nil|_,_,n+1, .cons _ t=>Vals.drop n t
noncomputable def mU:Option V->Option Value->Prop|some v,some u=>RelV v u|none,none=>True|_,_=>False
noncomputable def KV{a:Type}:List (a×V)->List (a×Value)->Prop:=Paired λ(p:a×V)(q:a×Value)=>p.1=q.1/\RelV p.2 q.2
noncomputable def kV:Key->V| .inl i=> .int i| .inr x=> .str x
inductive Z2 where|tab(q:Str)(ln cl:Value)|code(q:Str)
inductive HO where/--a list -/|lst(xs:List V)/--a tuple (never changes) -/|tup(xs:List V)/--a dict whose keys are ints and texts; one whose keys are tuples of ints and texts (the empty one is both) -/|dK(kvs:List (Key×V))|dT(kvs:List (List Key×V))/--a set of ints: its members, its size -/|set(S:Int->Bool)(n:Nat)/--an instance of the class at C, its dict at dx, its attributes -/|ins(C dx:Addr)(fs:List (Str×V))/--the dict of the instance at x -/|own(x:Addr)/--the dict of an exception -/|xd(fs:List (Str×V))/--a bound method, f of x -/|met(f x:Addr)/--a range object lo, lo + 1, .. below hi -/|ZE(lo hi:Int)/--a thing that is known to the object (the script; a dict while a loop walks it): read, never written while it is so -/|DM(o:Obj)(u:HO)/--a code object's table -/|HK(ps:Z2)/--any other thing, by what is true of its one object (a def of one's own: SetO a S n := HO.ext fun h => ..) -/|ext(φ:Heap->Prop)
noncomputable abbrev Hp:=Addr->Option HO
noncomputable def upd(H:Hp)(a:Addr)(o:HO):Hp:=λb=>if b=a then some o else H b
theorem ah{H:Hp}{a:Addr}{o:HO}:upd H a o a=some o:=by unfold upd;rw[if_pos rfl]
theorem aP{H:Hp}{a b:Addr}{o:HO}(h:b≠a):upd H a o b=H b:=by unfold upd;rw[if_neg h]
theorem Fl{H:Hp}{a:Addr}{o u:HO}:upd (upd H a o) a u=upd H a u:=by funext b;unfold upd;split<;>rfl
theorem Ye{H:Hp}{a b:Addr}{o u:HO}(h:H a=some o)(h':H b=some u)(d:o≠u):a≠b:=by intro e;subst e;rw[h]at h';exact d (Option.some.inj h')
theorem ay{H:Hp}{a b:Addr}{o:HO}(h:H a=some o)(h':H b=none):a≠b:=by intro e;subst e;rw[h]at h';cases h'
section
variable(P:Program)(w:World)
noncomputable def bV(H:Hp)(h:Heap)(a:Addr):HO->Prop| .lst xs=>xs.length<=sizeLine/\∃(its:List Value)(n:Nat),Vals xs its/\h.get? a=some {cls:= .type "list",data:= .seq its.toArray n}| .tup xs=>xs.length<=sizeLine/\∃its:List Value,Vals xs its/\IsTup h a its.toArray| .dK kvs=>kvs.length<=sizeLine/\(a==sysModules)=false/\∃vs,KV kvs vs/\h.DictOf (dh P w) a vs| .dT kvs=>kvs.length<=sizeLine/\(a==sysModules)=false/\∃xs:List (List Key×Addr×Value),Paired (λ(p:List Key×V)(q:List Key×Addr×Value)=>p.1=q.1/\H q.2.1=some (.tup (p.1.map kV))/\RelV p.2 q.2.2) kvs xs/\∃o es ep,h.get? a=some o/\o.ExactDict/\o.data= .dict es ep/\es.toList=xs.map (entryOfKey (tupleKind (dh P w)))/\(xs.map (·.1)).Nodup| .set S n=>h.SetOf (intKind P w) a S n| .ins C dx fs=>H dx=some (.own a)/\fs.length<=1000/\dx≠a/\h.get? a=some (PySem.W.instObj C dx)/\∃mA,h.Ns1 dx mA/\(∀f,mU (fs.lookup f) (mA f))/\PySem.Within mA (fs.map (·.1))| .own _=>∃o,h.get? a=some o| .xd fs=>∃mA,h.Ns1 a mA/\∀f,mU (fs.lookup f) (mA f)| .ZE lo hi=>∃t u v,h.get? a=some {cls:= .type "range",data:= .fields #[.int lo t, .int hi u, .int 1 v]}| .DM o u=>h.get? a=some o/\bV H h a u| .HK (.tab q ln cl)=>h.get? a=some {cls:= .none,data:= .fields #[]}\/∃c,h.get? a=some {cls:= .none,data:= .fields #[ln,cl, .ref c]}/\H c=some (.HK (.code q))| .HK (.code q)=>h.CodeRec (.ref a) q| .met f x=>h.get? a=some (PySem.W.methodObj (.ref f) (.ref x))| .ext φ=>φ h/\(∃o,h.get? a=some o)/\∀h1 h2:Heap,φ h1->(∀o,h1.get? a=some o->h2.get? a=some o)->φ h2
def iZ(H:Hp)(h:Heap):Prop:=∀a o,H a=some o->bV P w H h a o
end
section
variable{P:Program}{w:World}{H H':Hp}{h h':Heap}{a:Addr}{o:HO}
theorem bV.lt(x:bV P w H h a o):a<h.objs.size:=by
 cases o with
  |lst xs=>obtain⟨_,_,_,_,e⟩:=x;exact zQ09 e
  |tup xs=>obtain⟨_,_,_,p⟩:=x;exact p.lt
  |dK kvs=>obtain⟨_,_,_,_,o,_,_,e,_⟩:=x;exact zQ09 e
  |dT kvs=>obtain⟨_,_,_,_,o,_,_,e,_⟩:=x;exact zQ09 e
  |set S n=>obtain⟨o,_,_,_,e,_⟩:=x;exact zQ09 e
  |ins C dx fs=>obtain⟨_,_,_,e,_⟩:=x;exact zQ09 e
  |own y=>obtain⟨_,e⟩:=x;exact zQ09 e
  |xd fs=>obtain⟨_,⟨_,_,_,e,_⟩,_⟩:=x;exact zQ09 e
  |ZE lo hi=>obtain⟨_,_,_,e⟩:=x;exact zQ09 e
  |DM ob u=>obtain⟨e,_⟩:=x;exact zQ09 e
  |HK ps=>cases ps with|tab q ln cl=>rcases x with e|⟨c,e,_⟩<;>exact zQ09 e|code q=>obtain⟨c,o,vs,t,b,d,_⟩:=x;cases b;exact zQ09 d
  |met f y=>exact zQ09 (show h.get? a=some _ from x)
  |ext φ=>obtain⟨_,⟨_,e⟩,_⟩:=x;exact zQ09 e
theorem Paired.Ss{e g:Type}{F G:e->g->Prop}:∀{c:List e}{d:List g},Paired F c d->(∀a b,F a b->G a b)->Paired G c d|_,_, .nil,_=> .nil|_,_, .cons r t,f=> .cons (f _ _ r) (Paired.Ss t f)
noncomputable def Fix:HO->Prop| .tup _=>True| .HK _=>True|_=>False
noncomputable abbrev X_:={u:HO//Fix u}
theorem bV.wt(x:bV P w H h a o)(k:∀b u,(b=a\/H b=some (.own a))->h.get? b=some u->h'.get? b=some u)(ho:∀b,H b=some (.own a)->H' b=some (.own a))(ht:∀(b:Addr)(u:X_),H b=some u.1->H' b=some u.1):bV P w H' h' a o:=by
 induction o with
  |lst xs=>obtain⟨z,its,n,r,e⟩:=x;exact⟨z,its,n,r,k _ _ (.inl rfl) e⟩
  |tup xs=>obtain⟨z,its,r,ob,e,c⟩:=x;exact⟨z,its,r,ob,k _ _ (.inl rfl) e,c⟩
  |dK kvs=>obtain⟨z,y,vs,r,ob,es,ep,e,c⟩:=x;exact⟨z,y,vs,r,ob,es,ep,k _ _ (.inl rfl) e,c⟩
  |dT kvs=>obtain⟨z,y,xs,r,ob,es,ep,e,c⟩:=x;exact⟨z,y,xs,Paired.Ss r λp q z=>⟨z.1,ht _ ⟨.tup _,trivial⟩ z.2.1,z.2.2⟩,ob,es,ep,k _ _ (.inl rfl) e,c⟩
  |set S n=>obtain⟨ob,es,ep,t,e,c⟩:=x;exact⟨ob,es,ep,t,k _ _ (.inl rfl) e,c⟩
  |ins C dx fs=>obtain⟨d,z,ne,e,mA,⟨od,es,ep,g,c⟩,r⟩:=x;exact⟨ho _ d,z,ne,k _ _ (.inl rfl) e,mA,⟨od,es,ep,k _ _ (.inr d) g,c⟩,r⟩
  |own y=>obtain⟨ob,e⟩:=x;exact⟨ob,k _ _ (.inl rfl) e⟩
  |xd fs=>obtain⟨mA,⟨od,es,ep,e,c⟩,r⟩:=x;exact⟨mA,⟨od,es,ep,k _ _ (.inl rfl) e,c⟩,r⟩
  |ZE lo hi=>obtain⟨t,u,v,e⟩:=x;exact⟨t,u,v,k _ _ (.inl rfl) e⟩
  |DM ob u l=>obtain⟨e,q⟩:=x;exact⟨k _ _ (.inl rfl) e,l q⟩
  |HK ps=>
   cases ps with
    |tab q ln cl=>
     rcases x with e|⟨c,e,r⟩;·exact .inl (k a _ (.inl rfl) e)
     ·exact .inr ⟨c,k a _ (.inl rfl) e,ht c ⟨.HK (.code q),trivial⟩ r⟩
    |code q=>obtain⟨c,o,vs,t,i,g,j⟩:=x;cases i;exact⟨_,o,vs,t,rfl,k a _ (.inl rfl) g,j⟩
  |met f y=>have e:h.get? a=some (PySem.W.methodObj (.ref f) (.ref y)):=x;show h'.get? a=some (PySem.W.methodObj (.ref f) (.ref y));exact k a _ (.inl rfl) e
  |ext φ=>obtain⟨p,⟨o,e⟩,st⟩:=x;exact⟨st _ _ p λo q=>k _ _ (.inl rfl) q,⟨o,k _ _ (.inl rfl) e⟩,st⟩
theorem iZ.lt(x:iZ P w H h)(e:H a=some o):a<h.objs.size:=(x a o e).lt
theorem iZ.fresh(x:iZ P w H h)(e:h.objs.size<=a):H a=none:=by cases q:H a with|none=>rfl|some u=>exact absurd (gc (x.lt q) e) (Nat.lt_irrefl _)
theorem iZ.kept(x:iZ P w H h)(k:∀b u,h.get? b=some u->h'.get? b=some u):iZ P w H h':=λa o e=>(x a o e).wt (λb u _ q=>k b u q) (λ_ q=>q) λ_ _ q=>q
theorem iZ.laid(x:iZ P w H h)(k:∀b u,h.get? b=some u->h'.get? b=some u)(d:h.objs.size<=a)(new:bV P w (upd H a o) h' a o):iZ P w (upd H a o) h':=λb u e=>by
 have hn:=x.fresh d;by_cases hb:b=a;·subst hb;rw[ah]at e;cases e;exact new
 ·rw[aP hb]at e;exact(x b u e).wt (λc v _ q=>k c v q) (λc q=>by rw[aP (ay q hn)];exact q) λc xs q=>by rw[aP (ay q hn)];exact q
end
def Rd(H:Hp)(a:Addr)(u:HO):Prop:=H a=some u\/∃o,H a=some (.DM o u)
theorem Rd.ok{P:Program}{w:World}{H:Hp}{h:Heap}{a:Addr}{u:HO}(r:Rd H a u)(x:iZ P w H h):bV P w H h a u:=by
 rcases r with r|⟨o,r⟩;·exact x a u r
 ·obtain⟨_,q⟩:=x a _ r;exact q
noncomputable def WM:Option HO->Prop|some (.lst _)=>True|some (.dK _)=>True|some (.dT _)=>True|some (.set _ _)=>True|some (.ins _ _ _)=>True|some (.ext _)=>True|_=>False
section
variable{P:Program}{w:World}{H:Hp}{h h':Heap}{x e:Addr}{o':HO}
theorem iZ.write(ok:iZ P w H h)(d:WM (H x))(he:e=x\/H e=some (.own x))(k:∀b u,b≠e->h.get? b=some u->h'.get? b=some u)(j:∃u,h'.get? e=some u)(new:bV P w (upd H x o') h' x o'):iZ P w (upd H x o') h':=λb u q=>by
 have g:∀c y,H c=some (.own y)->c≠x:=λc y r z=>by subst z;rw[r]at d;exact d
 have l:∀(c:Addr)(u:X_),H c=some u.1->c≠x:=λc⟨u,f⟩r z=>by subst z;rw[show H c=some u from r]at d;cases u<;>first|exact d|exact f
 by_cases hb:b=x;·subst hb;rw[ah]at q;cases q;exact new
 ·rw[aP hb]at q;by_cases a:b=e
  ·have i:H b=some (.own x):=by
    rcases he with z|z;·exact absurd (a.trans z) hb
    ·rw[a];exact z
   rw[q]at i;cases i;obtain⟨v,hv⟩:=j;exact⟨v,by rw[a];exact hv⟩
  ·refine(ok b u q).wt (λc v hc r=>k c v ?_ r) (λc r=>by rw[aP (g c b r)];exact r) λc xs r=>by rw[aP (l c xs r)];exact r
   rcases hc with rfl|hc;·exact a
   ·rintro rfl;rcases he with z|z;·exact g c b hc z
    ·rw[hc]at z;cases z;exact hb rfl
end
structure Un(fs ex:List Addr)(H H':Hp)(h h':Heap):Prop where
 keep:∀b o,h.get? b=some o->H b=none->b∉fs->b∉ex->h'.get? b=some o
 slot:∀b o,h.get? b=some o->H b=none->b∈fs->b∉ex->∃sl,h'.get? b=some {o with slots:=sl}
 free:∀b o,h.get? b=some o->H b=none->b∉ex->H' b=none
 there:∀b o,h.get? b=some o->b∉ex->∃o',h'.get? b=some o'
 ue:∀b xs,H b=some (.tup xs)->H' b=some (.tup xs)
 rG:∀b o u,H b=some (.DM o u)->H' b=some (.DM o u)
 ur:∀b ps,H b=some (.HK ps)->H' b=some (.HK ps)
section
variable{fs fs' ex ex':List Addr}{H H1 H2:Hp}{h h1 h2 h':Heap}{a x e:Addr}{o:HO}
theorem Un.any(u:Un fs ex H H1 h h1){b:Addr}{ob:Obj}(q:h.get? b=some ob)(n:H b=none)(c:b∉ex):∃sl,h1.get? b=some {ob with slots:=sl}:=by
 by_cases hb:b∈fs;·exact u.slot b ob q n hb c
 ·exact⟨ob.slots,u.keep b ob q n hb c⟩
theorem Un.kept(k:∀b u,h.get? b=some u->h'.get? b=some u):Un fs ex H H h h':=⟨λb ob q _ _ _=>k b ob q,λb ob q _ _ _=>⟨ob.slots,k b ob q⟩,λ_ _ _ n _=>n,λb ob q _=>⟨ob,k b ob q⟩,λ_ _ q=>q,λ_ _ _ q=>q,λ_ ps q=>(by rw[q])⟩
theorem Un.refl:Un fs ex H H h h:=Un.kept λ_ _ q=>q
theorem Un.laid(k:∀b u,h.get? b=some u->h'.get? b=some u)(c:h.objs.size<=a)(hn:H a=none):Un fs ex H (upd H a o) h h' where
 keep:=λb u q _ _ _=>k b u q;slot:=λb u q _ _ _=>⟨u.slots,k b u q⟩;free:=λb u q n _=>by rw[aP (zQ18 (gc (zQ09 q) c))];exact n
 there:=λb u q _=>⟨u,k b u q⟩;ue:=λb xs q=>by rw[aP (ay q hn)];exact q
 rG:=λb u xs q=>by rw[aP (ay q hn)];exact q
 ur:=λb ps q=>(by rw[aP (ay q hn),q])
theorem Un.write(c:WM (H x))(he:e=x\/H e=some (.own x))(k:∀b u,b≠e->h.get? b=some u->h'.get? b=some u)(g:∃u,h'.get? e=some u):Un fs ex H (upd H x o) h h':=by
 have f:∀b,H b=none->b≠x:=λb n z=>by subst z;rw[n]at c;exact c
 have hb:∀b,H b=none->b≠e:=λb n z=>by
  subst z;rcases he with r|r;·exact f b n r
  ·rw[n]at r;cases r
 have hm:∀b u,H b=some u->¬WM (some u)->b≠x:=λb u q nm z=>by subst z;rw[q]at c;exact nm c
 refine⟨λb u q n _ _=>k b u (hb b n) q,λb u q n _ _=>⟨u.slots,k b u (hb b n) q⟩,λb u q n _=>by rw[aP (f b n)];exact n,λb u q _=>?_,λb xs q=>by rw[aP (hm b _ q λz=>z)];exact q,λb u xs q=>by rw[aP (hm b _ q λz=>z)];exact q,λb ps q=>(by rw[aP (hm b _ q λz=>z),q])⟩;by_cases d:b=e;·subst d;exact g
 ·exact⟨u,k b u d q⟩
end
noncomputable def YM(h:Heap)(H:Hp):List Addr:=(List.range h.objs.size).filter λa=>(H a).isSome
noncomputable def tY(h:Heap)(H:Hp):Heap:=PySem.W.hideAll h (YM h H)
theorem uW(h:Heap)(H:Hp):(tY h H).objs.size=h.objs.size:=PySem.W.hideAll_size _ _
theorem B8{h:Heap}{H:Hp}{b:Addr}{o:Obj}(e:h.get? b=some o)(n:H b=none):(tY h H).get? b=some o:=PySem.W.hideAll_get _ e λhm=>by have q:(H b).isSome=true:=(List.mem_filter.mp hm).2;rw[n]at q;simp at q
theorem Es{h:Heap}{H:Hp}{b:Addr}{o:Obj}(e:(tY h H).get? b=some o):h.get? b=some o/\H b=none:=by have a:h.get? b=some o:=PySem.W.of_hideAll (YM h H) e;refine⟨a,?_⟩;cases q:H b with|none=>rfl|some x=>have hm:b∈YM h H:=List.mem_filter.mpr ⟨List.mem_range.mpr (zQ09 a),by simp[q]⟩;have z:(tY h H).get? b=none:=PySem.W.hideAll_none (YM h H) hm;rw[z]at e;cases e
noncomputable def Nb(g h:Heap)(L:Addr):List (Addr×Obj):=(List.range h.objs.size).filterMap λa=>if a=L\/(g.get? a).isSome=true then none else(h.get? a).map λo=>(a,o)
noncomputable def rest(g h:Heap)(L d:Addr):List (Addr×Obj):=(Nb g h L).filter λp=>decide (p.1≠d)
def RU(mg:Str->Option Value)(h:Heap):Prop:=∃bm ob,mg "__builtins__"=some (.ref bm)/\bm≠builtinsNs/\h.get? bm=some ob/\ob.cls= .type "module"/\ob.dict=some builtinsNs/\ob.data= .plain
theorem RU.keeps{mg:Str->Option Value}{h h':Heap}(x:RU mg h)(k:∀b o,h.get? b=some o->h'.get? b=some o):RU mg h':=let⟨bm,ob,a,b,c,d⟩:=x;⟨bm,ob,a,b,k _ _ c,d⟩
structure Mod(K:PySem.W.Frag)(mg:Str->Option Value)(base:Heap):Prop where
 Ez:K.In base
 glob:base.Ns mainGlobals mg
 blt:∃mb,base.Ns builtinsNs mb/\∀x:Str,x≠"__name__"->mb x=bootBuiltins x
 nolimit:base.NoLimit
 bm:RU mg base
structure Cx where
 prog:Program
 w:World
 K:PySem.W.Frag
 mg:Str->Option Value
 base:Heap
 A:Around
 N:List Str
 bQ:Shared
 H₀:Hp
 env:Env
 outer:List Env
 stack:List Env
 ex:List Addr
 fn:Str->Bool
 calm:Bool
 pn:List (Addr×Obj)
 xe:Value->Shared->Prop
noncomputable def kJ(l:List Env):List Addr:=l.filterMap (·.frame)
noncomputable abbrev Cx.fs(X:Cx):List Addr:=kJ X.outer
def YY(sc:Scope)(x:Str):Prop:=sc.names.lookup x=some .local\/sc.names.lookup x=some .cell\/sc.names.lookup x=some .free
def Loc(sc:Scope)(x:Str):Prop:=sc.names.lookup x=some .local\/sc.names.lookup x=some .cell
noncomputable def Vb(sc:Scope)(x:Str):Bool:=match sc.names.lookup x with|some .local=>true|some .cell=>true|_=>false
theorem cj{sc:Scope}{x:Str}(h:Vb sc x=true):Loc sc x:=by
 unfold Vb at h;split at h;·exact Or.inl (by assumption)
 ·exact Or.inr (by assumption)
 ·cases h
noncomputable def Look(env:Env)(h:Heap)(m:Str->Option Value)(x:Str)(u:Value):Prop:=(env.kindOf x=some .local/\m x=some u)\/((env.kindOf x=some .cell\/env.kindOf x=some .free)/\∃c,env.cells.lookup x=some c/\h.IsCell c (some u))
structure Cx.Ok(X:Cx):Prop where
 mod:Mod X.K X.mg X.base
 kind:X.env.scope.kind= .function
 glob:X.env.globals=mainGlobals
 blt:X.env.builtins=builtinsNs
 above:X.bQ.heap.objs.size<=X.env.locals
 inj:∀x y c,X.env.cells.lookup x=some c->X.env.cells.lookup y=some c->x=y
 has:∀x,(X.env.kindOf x=some .cell\/X.env.kindOf x=some .free)->∃c,X.env.cells.lookup x=some c
 Yl:∀x c,X.fn x=true->X.env.cells.lookup x=some c->X.bQ.heap.objs.size<=c
 hd:X.calm=true->HBp X.base X.pn X.A
 frames:X.A.frames=some X.stack
 YR:X.stack=X.outer\/(X.stack=X.env::X.outer/\X.env.frame=some X.env.locals)
 YL:∀b∈X.ex,b≠X.env.locals/\∀x c,X.env.cells.lookup x=some c->c≠b
 bs:∀b o,X.base.get? b=some o->X.bQ.heap.get? b=some o/\X.H₀ b=none
 HJ:X.base.objs.size<=X.bQ.heap.objs.size
 Di:∀b o,X.base.get? b=some o->b∉X.ex
 Gn:∀b∈X.ex,b∉X.fs
 pb:X.bQ.heap.FunFrames X.base X.outer
 Rk:∀b∈X.fs,X.H₀ b=none
structure Inv(X:Cx)(pins:List (Addr×Obj))(σ:List (Option V))(H:Hp)(s:Shared):Prop where
 ok:X.Ok
 os:s.os=X.bQ.os
 bare:AllBare s.gens
 base:Un X.fs X.ex X.H₀ H X.bQ.heap s.heap
 loc:∃m,s.heap.Ns X.env.locals m/\∀(i:Nat)(x:Str)(v:V),X.N[i]?=some x->σ[i]?=some (some v)->YY X.env.scope x->∃u,RelV v u/\Look X.env s.heap m x u
 cell:∀x c,X.env.cells.lookup x=some c->∃v,s.heap.IsCell c v
 free:H X.env.locals=none
 g9:∀x c,X.env.cells.lookup x=some c->H c=none
 pin:∀p∈X.pn++pins,s.heap.get? p.1=some p.2/\H p.1=none/\p.1≠X.env.locals/\p.1∉X.fs/\∀v,p.2.data≠ .cell v
 bT:iZ X.prog X.w H s.heap
 len:σ.length=X.N.length
section
variable{X:Cx}{pins:List (Addr×Obj)}{σ:List (Option V)}{H H':Hp}{s:Shared}{h':Heap}
theorem Cx.Ok.UT(ok:X.Ok){b:Addr}{o:Obj}(e:X.base.get? b=some o):b∉X.fs:=λhb=>by have :=(ok.pb.mem hb).1;rw[e]at this;cases this
theorem Inv.bs(I:Inv X pins σ H s):∀b o,X.base.get? b=some o->s.heap.get? b=some o/\H b=none:=λb o e=>⟨I.base.keep b o (I.ok.bs b o e).1 (I.ok.bs b o e).2 (I.ok.UT e) (I.ok.Di b o e),I.base.free b o (I.ok.bs b o e).1 (I.ok.bs b o e).2 (I.ok.Di b o e)⟩
theorem Inv.bk(I:Inv X pins σ H s):∀b o,X.base.get? b=some o->s.heap.get? b=some o:=λb o e=>(I.bs b o e).1
theorem Inv.mod(I:Inv X pins σ H s):Mod X.K X.mg X.base:=I.ok.mod
theorem Inv.hb(I:Inv X pins σ H s)(hc:X.calm=true):HB s.heap X.A:=by
 rcases I.ok.hd hc with h|⟨a,oe,vs,b,c,d⟩;·exact .inl h
 ·exact .inr ⟨a,oe,vs,b,c.elim (I.bk a oe) λm=>(I.pin (a,oe) (List.mem_append_left _ m)).1,d⟩
theorem Inv.O5(I:Inv X pins σ H s)(hc:X.calm=true){it:Addr}(f:it∈X.ex\/X.bQ.heap.objs.size<=it)(g:∀p∈X.pn++pins,p.1≠it):∀a,X.A.handled=some (.ref a)->a≠it:=λa d z=>by
 subst z;rcases I.ok.hd hc with h|⟨b,oe,vs,e,c,i⟩;·rw[h]at d;cases d
 ·rw[e]at d;cases d;rcases c with c|c
  ·rcases f with z|z;·exact I.ok.Di _ _ c z
   ·exact absurd (gc (zQ09 c) I.ok.HJ) (Nat.not_lt.mpr z)
  ·exact g _ (List.mem_append_left _ c) rfl
theorem Inv.jl(I:Inv X pins σ H s):X.K.In s.heap:=I.ok.mod.Ez.keeps I.bk
theorem Inv.fr(I:Inv X pins σ H s):∃m,Fr X.base X.env.locals s.heap m:=let⟨m,hn,_⟩:=I.loc;⟨m,hn,I.bk,cw I.ok.HJ I.ok.above⟩
theorem Inv.lt(I:Inv X pins σ H s):X.env.locals<s.heap.objs.size:=let⟨_,hn,_⟩:=I.loc;hn.lt
theorem Inv.sz(I:Inv X pins σ H s):X.bQ.heap.objs.size<=s.heap.objs.size:=cw I.ok.above (Nat.le_of_lt I.lt)
theorem Inv.aaD(I:Inv X pins σ H s){a:Addr}(h:s.heap.objs.size<=a):a∉X.fs:=λhb=>by obtain⟨_,o,ho,_⟩:=I.ok.pb.mem hb;exact absurd (gc (zQ09 ho) (cw I.sz h)) (Nat.lt_irrefl _)
theorem Inv.SY(I:Inv X pins σ H s):∀x c,X.env.cells.lookup x=some c->c≠X.env.locals:=λx c e z=>by obtain⟨v,o,ho,hd⟩:=I.cell x c e;obtain⟨m,⟨o',es,ep,b,a,_⟩,_⟩:=I.loc;rw[z,b]at ho;cases ho;rw[a]at hd;cases hd
theorem Inv.pb(I:Inv X pins σ H s):s.heap.FunFrames X.base X.outer:=by
 have all:∀(l:List Env),(∀b∈kJ l,b∈X.fs)->X.bQ.heap.FunFrames X.base l->s.heap.FunFrames X.base l:=by intro l;induction l with|nil=>intro _ _;trivial|cons env r g=>intro d hl;obtain⟨f,⟨L,o,c,hn,ho,hd⟩,hr⟩:=hl;have a:L∈X.fs:=d L (by unfold kJ;rw[mI,c];exact bI);obtain⟨sl,e⟩:=I.base.slot L o ho (I.ok.Rk L a) a λz=>I.ok.Gn L z a;exact⟨f,⟨L,_,c,hn,e,hd⟩,g (λb hb=>d b (by unfold kJ;rw[mI,c];exact ck _ hb)) hr⟩
 exact all X.outer (λ_ hb=>hb) I.ok.pb
theorem Inv.stack(I:Inv X pins σ H s):s.heap.FunFrames X.base X.stack:=by
 rcases I.ok.YR with e|⟨e,a⟩;·rw[e];exact I.pb
 ·rw[e];obtain⟨m,hn,_⟩:=I.loc;refine .cons (by rw[I.ok.kind];decide) a hn ?_ I.pb;exact Heap.get?_none_of_le (cw I.ok.HJ I.ok.above)
theorem Inv.jq(I:Inv X pins σ H s):∀b∈kJ X.stack,b∈X.env.locals::X.fs:=λb hb=>by
 rcases I.ok.YR with e|⟨e,a⟩;·rw[e]at hb;exact ck _ hb
 ·rw[e]at hb;unfold kJ at hb;rw[mI,a]at hb;exact hb
theorem Inv.zW(I:Inv X pins σ H s):∀b∈kJ X.stack,H b=none:=λb hb=>by
 rcases List.mem_cons.mp (I.jq b hb)with e|hb;·rw[e];exact I.free
 ·obtain⟨_,o,ho,_⟩:=I.ok.pb.mem hb;exact I.base.free b o ho (I.ok.Rk b hb) λz=>I.ok.Gn b z hb
theorem Inv.step{g':Array GenState}{t':Nat}{d':Drawn}{ch:List Addr}(I:Inv X pins σ H s)(g:∀b∈ch,(b∈X.ex\/X.bQ.heap.objs.size<=b)/\b≠X.env.locals/\(∀x c,X.env.cells.lookup x=some c->c≠b)/\∀p∈X.pn++pins,p.1≠b)(keep:∀b o,b≠X.env.locals->b∉X.fs->b∉ch->s.heap.get? b=some o->H b=none->h'.get? b=some o)(slot:∀b o,b≠X.env.locals->b∈X.fs->b∉ch->s.heap.get? b=some o->H b=none->∃sl,h'.get? b=some {o with slots:=sl})(free:∀b o,b∉ch->s.heap.get? b=some o->H b=none->H' b=none)(there:∀b o,b∉ch->s.heap.get? b=some o->∃o',h'.get? b=some o')(ue:∀b xs,H b=some (.tup xs)->H' b=some (.tup xs))(rG:∀b o u,H b=some (.DM o u)->H' b=some (.DM o u))(ur:∀b ps,H b=some (.HK ps)->H' b=some (.HK ps))(ns:∀m,s.heap.Ns X.env.locals m->h'.Ns X.env.locals m)(bT:iZ X.prog X.w H' h')(C:AllBare g'):Inv X pins σ H' {s with heap:=h',gens:=g',drawn:=d',toks:=t'}:=by
 have y:∀b o,X.bQ.heap.get? b=some o->b≠X.env.locals:=λb o e=>zQ18 (gc (zQ09 e) I.ok.above);have j:∀b o,X.bQ.heap.get? b=some o->b∉X.ex->b∉ch:=λb o e a hb=>by
  rcases(g b hb).1 with z|z;·exact a z
  ·exact absurd (gc (zQ09 e) z) (Nat.lt_irrefl _)
 have cellK:∀x c,X.env.cells.lookup x=some c->∀v,s.heap.IsCell c v->h'.IsCell c v:=λx c e v⟨o,ho,hd⟩=>by
  have h:c∉ch:=λz=>(g c z).2.2.1 x c e rfl;by_cases hc:c∈X.fs;·obtain⟨sl,q⟩:=slot c o (I.SY x c e) hc h ho (I.g9 x c e);exact⟨_,q,hd⟩
  ·exact⟨o,keep c o (I.SY x c e) hc h ho (I.g9 x c e),hd⟩
 refine⟨I.ok,I.os,C,⟨λb o e n hb a=>?_,λb o e n hb a=>?_,λb o e n a=>?_,λb o e a=>?_,λb xs e=>ue b xs (I.base.ue b xs e),λb o xs e=>rG b o xs (I.base.rG b o xs e),λb ps e=>?_⟩,?_,λx c e=>?_,?_,λx c e=>?_,λp w=>?_,bT,I.len⟩;·exact keep b o (y b o e) hb (j b o e a) (I.base.keep b o e n hb a) (I.base.free b o e n a)
 ·obtain⟨sl,f⟩:=I.base.slot b o e n hb a;obtain⟨D,t⟩:=slot b _ (y b o e) hb (j b o e a) f (I.base.free b o e n a);exact⟨D,t⟩
 ·obtain⟨o',f⟩:=I.base.there b o e a;exact free b o' (j b o e a) f (I.base.free b o e n a)
 ·obtain⟨o',f⟩:=I.base.there b o e a;exact there b o' (j b o e a) f
 ·exact ur b ps (I.base.ur b ps e)
 ·obtain⟨m,hn,hl⟩:=I.loc;refine⟨m,ns m hn,λi x v f t B=>?_⟩;obtain⟨u,r,l⟩:=hl i x v f t B;refine⟨u,r,?_⟩;rcases l with l|⟨k,c,e,z⟩;·exact .inl l
  ·exact .inr ⟨k,c,e,cellK x c e _ z⟩
 ·obtain⟨v,z⟩:=I.cell x c e;exact⟨v,cellK x c e v z⟩
 ·obtain⟨m,⟨o,_,_,ho,_⟩,_⟩:=I.loc;exact free _ o (λz=>(g _ z).2.1 rfl) ho I.free
 ·obtain⟨v,o,ho,hd⟩:=I.cell x c e;exact free c o (λz=>(g c z).2.2.1 x c e rfl) ho (I.g9 x c e)
 ·obtain⟨e,n,ne,A,d⟩:=I.pin p w;have h:p.1∉ch:=λz=>(g p.1 z).2.2.2 p w rfl;exact⟨keep p.1 p.2 ne A h e n,free p.1 p.2 h e n,ne,A,d⟩
theorem Inv.un{t':Nat}(I:Inv X pins σ H s)(u:Un X.fs [] H H' s.heap h')(bT:iZ X.prog X.w H' h'):Inv X pins σ H' {s with heap:=h',toks:=t'}:=by obtain⟨m,⟨o,es,ep,ho,r⟩,_⟩:=id I.loc;obtain⟨sl,f⟩:=u.any ho I.free (by simp);exact I.step (g':=s.gens) (d':=s.drawn) (ch:=[]) (λ_ z=>nomatch z) (λb o _ hb _ e n=>u.keep b o e n hb (by simp)) (λb o _ hb _ e n=>u.slot b o e n hb (by simp)) (λb o _ e n=>u.free b o e n (by simp)) (λb o _ e=>u.there b o e (by simp)) u.ue u.rG u.ur (λh hm=>by obtain⟨o',d,c,a,g⟩:=hm;rw[ho]at a;cases a;exact⟨_,d,c,f,g⟩) bT I.bare
theorem Inv.call{g':Array GenState}{t':Nat}{d':Drawn}{ch:List Addr}(I:Inv X pins σ H s)(u:Un (kJ X.stack) ch H H' s.heap h')(bT:iZ X.prog X.w H' h')(i:AllBare g')(d:∀b∈ch,(b∈X.ex\/X.bQ.heap.objs.size<=b)/\b≠X.env.locals/\(∀x c,X.env.cells.lookup x=some c->c≠b)/\∀p∈X.pn++pins,p.1≠b):Inv X pins σ H' {s with heap:=h',gens:=g',drawn:=d',toks:=t'}:=by obtain⟨m,⟨o,es,ep,ho,r⟩,_⟩:=id I.loc;obtain⟨sl,a⟩:=u.any ho I.free λz=>(d _ z).2.1 rfl;exact I.step (ch:=ch) d (λb o a hb hc e n=>u.keep b o e n (λz=>(List.mem_cons.mp (I.jq b z)).elim a hb) hc) (λb o _ _ hc e n=>u.any e n hc) (λb o hc e n=>u.free b o e n hc) (λb o hc e=>u.there b o e hc) u.ue u.rG u.ur (λk hm=>by obtain⟨o',h,g,f,j⟩:=hm;rw[ho]at f;cases f;exact⟨_,h,g,a,j⟩) bT i
theorem Inv.turned{t':Nat}{it:Addr}(I:Inv X pins σ H s)(k:∀b o,b≠it->s.heap.get? b=some o->h'.get? b=some o)(hn:H it=none)(a:it≠X.env.locals)(h1:it∈X.ex\/X.bQ.heap.objs.size<=it)(h2:∀x c,X.env.cells.lookup x=some c->c≠it)(h3:∀p∈X.pn++pins,p.1≠it):Inv X pins σ H {s with heap:=h',toks:=t'}:=by
 have d:∀b u,H b=some u->b≠it:=λb u e z=>by rw[z,hn]at e;cases e
 refine I.step (g':=s.gens) (d':=s.drawn) (ch:=[it]) (λb hb=>?_) (λb o _ _ hc e _=>k b o (λz=>hc (by simp[z])) e) (λb o _ _ hc e _=>⟨o.slots,k b o (λz=>hc (by simp[z])) e⟩) (λ_ _ _ _ n=>n) (λb o hc e=>⟨o,k b o (λz=>hc (by simp[z])) e⟩) (λ_ _ e=>e) (λ_ _ _ e=>e) (λb ps e=>(by rw[e])) (λm hm=>?_) (λb u e=>?_) I.bare
 ·have e:b=it:=by simpa using hb
  subst e;exact⟨h1,a,h2,h3⟩
 ·obtain⟨o,es,ep,ho,r⟩:=hm;exact⟨o,es,ep,k _ o (Ne.symm a) ho,r⟩
 ·refine(I.bT b u e).wt (λc v hc q=>k c v ?_ q) (λ_ q=>q) λ_ _ q=>q;rcases hc with z|z;·rw[z];exact d b u e
  ·exact d c _ z
theorem Inv.tok(I:Inv X pins σ H s)(t:Nat):Inv X pins σ H {s with toks:=t}:=I.un (h':=s.heap) (t':=t) Un.refl I.bT
theorem Inv.kept{t':Nat}(I:Inv X pins σ H s)(k:∀b u,s.heap.get? b=some u->h'.get? b=some u):Inv X pins σ H {s with heap:=h',toks:=t'}:=I.un (Un.kept k) (I.bT.kept k)
theorem Inv.laid{a:Addr}{o:HO}{t':Nat}(I:Inv X pins σ H s)(k:∀b u,s.heap.get? b=some u->h'.get? b=some u)(c:s.heap.objs.size<=a)(new:bV X.prog X.w (upd H a o) h' a o):Inv X pins σ (upd H a o) {s with heap:=h',toks:=t'}:=I.un (Un.laid k c (I.bT.fresh c)) (I.bT.laid k c new)
theorem Inv.write{x e:Addr}{o:HO}{t':Nat}(I:Inv X pins σ H s)(c:WM (H x))(he:e=x\/H e=some (.own x))(k:∀b u,b≠e->s.heap.get? b=some u->h'.get? b=some u)(a:∃u,h'.get? e=some u)(new:bV X.prog X.w (upd H x o) h' x o):Inv X pins σ (upd H x o) {s with heap:=h',toks:=t'}:=I.un (Un.write c he k a) (I.bT.write c he k a new)
theorem Inv.weak{a:List (Option V)}(I:Inv X pins σ H s)(hl:a.length=σ.length)(w:∀(i:Nat)v,a[i]?=some (some v)->σ[i]?=some (some v)):Inv X pins a H s:=⟨I.ok,I.os,I.bare,I.base,let⟨m,hn,e⟩:=I.loc;⟨m,hn,λi x v b c d=>e i x v b (w i v c) d⟩,I.cell,I.free,I.g9,I.pin,I.bT,hl.trans I.len⟩
theorem Inv.EK{a:List (Addr×Obj)}(I:Inv X pins σ H s)(h:∀p∈a,s.heap.get? p.1=some p.2/\H p.1=none/\p.1≠X.env.locals/\p.1∉X.fs/\∀v,p.2.data≠ .cell v):Inv X a σ H s:=⟨I.ok,I.os,I.bare,I.base,I.loc,I.cell,I.free,I.g9,λp b=>(List.mem_append.mp b).elim (λz=>I.pin p (List.mem_append_left _ z)) (h p),I.bT,I.len⟩
theorem Bv{N:List Str}(e:N.Nodup){i j:Nat}{x:Str}(a:N[i]?=some x)(b:N[j]?=some x):i=j:=by obtain⟨h1,c⟩:=List.getElem?_eq_some_iff.mp a;obtain⟨h2,d⟩:=List.getElem?_eq_some_iff.mp b;exact(List.getElem_inj e).mp (c.trans d.symm)
theorem u_{M:Model}{A:Around}{E:Value->Shared->Prop}{i:Nat}{x:Str}{v:V}{u:Value}{Q:Unit->Shared->Prop}(I:Inv X pins σ H s)(O:X.N.Nodup)(hi:X.N[i]?=some x)(l:Loc X.env.scope x)(r:RelV v u)(h:∀s',Inv X pins (σ.set i (some v)) H s'->(∃a,Heap.SameBut a s.heap s'.heap/\(a=X.env.locals\/X.env.cells.lookup x=some a))->Q () s')(Y:X.fn x=true\/X.env.scope.names.lookup x=some .local:=by first|exact .inl rfl|exact .inr rfl|assumption):wpAny M A (storeName X.env x u) Q E s:=by
 obtain⟨m,hn,hl⟩:=id I.loc;have W:(X.env.scope.kind== .class||(X.env.scope.kind== .module&&X.env.locals !=X.env.globals))=false:=by rw[I.ok.kind];rfl
 have T:i<σ.length:=by rw[I.len];exact(List.getElem?_eq_some_iff.mp hi).1
 have SY:=I.SY;have tracked:∀{a:Addr}{h':Heap},(∃o,s.heap.get? a=some o/\H a=none)->Heap.SameBut a s.heap h'->iZ X.prog X.w H h':=λ{a h'}ha f b ob e=>by
  obtain⟨_,_,S⟩:=ha;refine(I.bT b ob e).wt (λc C hc q=>(f.2 c ?_).trans q) (λ_ q=>q) λ_ _ q=>q;rintro rfl;rcases hc with rfl|hc;·rw[S]at e;cases e
  ·rw[S]at hc;cases hc
 rcases l with w|w
 ·refine wpAny_storeName_local w hn (λh' hn' f=>?_) W;obtain⟨oL,_,_,Z,_⟩:=id hn;refine h _ ⟨I.ok,I.os,I.bare,⟨λb o e n hb l=>?_,λb o e n hb l=>?_,I.base.free,λb o e l=>?_,I.base.ue,I.base.rG,I.base.ur⟩,⟨_,hn',λj y N g t D=>?_⟩,λy c e=>?_,I.free,I.g9,λp G=>?_,tracked ⟨oL,Z,I.free⟩ f,by simpa using I.len⟩ ⟨_,f, .inl rfl⟩;·exact(f.2 b (zQ18 (gc (zQ09 e) I.ok.above))).trans (I.base.keep b o e n hb l)
  ·obtain⟨sl,g⟩:=I.base.slot b o e n hb l;exact⟨sl,(f.2 b (zQ18 (gc (zQ09 e) I.ok.above))).trans g⟩
  ·obtain⟨o',g⟩:=I.base.there b o e l;exact⟨o',(f.2 b (zQ18 (gc (zQ09 e) I.ok.above))).trans g⟩
  ·by_cases hj:j=i;·subst hj;rw[hi]at g;cases g;rw[List.getElem?_set_self T]at t;cases t;exact⟨u,r, .inl ⟨w,by simp⟩⟩
   ·rw[List.getElem?_set_ne (Ne.symm hj)]at t;obtain⟨L,K,q⟩:=hl j y N g t D;refine⟨L,K,?_⟩;rcases q with⟨k,e⟩|⟨k,c,e,z⟩;·refine .inl ⟨k,?_⟩;have :y≠x:=λe=>hj (Bv O g (e▸hi));simp[this,e]
    ·exact .inr ⟨k,c,e,z.sameBut f (SY y c e)⟩
  ·obtain⟨C,z⟩:=I.cell y c e;exact⟨C,z.sameBut f (SY y c e)⟩
  ·obtain⟨e,n,ne,J,d⟩:=I.pin p G;exact⟨(f.2 p.1 ne).trans e,n,ne,J,d⟩
 ·have F:X.fn x=true:=by
   rcases Y with z|z;·exact z
   ·rw[z]at w;cases w
  obtain⟨c,hc⟩:=I.ok.has x (.inl w);obtain⟨C,z⟩:=I.cell x c hc;refine wpAny_storeName_cell I.ok.kind w hc z (λh' P f=>?_);obtain⟨oc,U,aaN⟩:=id z;refine h {s with heap:=h'} ⟨I.ok,I.os,I.bare,⟨λb o e n hb l=>?_,λb o e n hb l=>?_,I.base.free,λb o e l=>?_,I.base.ue,I.base.rG,I.base.ur⟩,⟨m,hn.sameBut f (Ne.symm (SY x c hc)),λj y N g t D=>?_⟩,λy B e=>?_,I.free,I.g9,λp G=>?_,tracked ⟨oc,U,I.g9 x c hc⟩ f,by simpa using I.len⟩ ⟨c,f, .inr hc⟩;·exact(f.2 b (zQ18 (gc (zQ09 e) (I.ok.Yl x c F hc)))).trans (I.base.keep b o e n hb l)
  ·obtain⟨sl,g⟩:=I.base.slot b o e n hb l;exact⟨sl,(f.2 b (zQ18 (gc (zQ09 e) (I.ok.Yl x c F hc)))).trans g⟩
  ·obtain⟨o',g⟩:=I.base.there b o e l;exact⟨o',(f.2 b (zQ18 (gc (zQ09 e) (I.ok.Yl x c F hc)))).trans g⟩
  ·by_cases hj:j=i;·subst hj;rw[hi]at g;cases g;rw[List.getElem?_set_self T]at t;cases t;exact⟨u,r, .inr ⟨.inl w,c,hc,P⟩⟩
   ·rw[List.getElem?_set_ne (Ne.symm hj)]at t;obtain⟨L,K,q⟩:=hl j y N g t D;refine⟨L,K,?_⟩;rcases q with q|⟨k,B,e,z'⟩;·exact .inl q
    ·refine .inr ⟨k,B,e,z'.sameBut f ?_⟩;rintro rfl;exact hj (Bv O g (I.ok.inj _ _ _ e hc▸hi))
  ·by_cases R:B=c;·subst R;exact⟨_,P⟩
   ·obtain⟨w2,z2⟩:=I.cell y B e;exact⟨w2,z2.sameBut f R⟩
  ·obtain⟨e,n,ne,J,d⟩:=I.pin p G;refine⟨(f.2 p.1 ?_).trans e,n,ne,J,d⟩;intro q;rw[q,U]at e;have q':oc=p.2:=Option.some.inj e;exact d C (by rw[<-q'];exact aaN)
theorem lB{M:Model}{A:Around}{E:Value->Shared->Prop}{i:Nat}{x:Str}{v:V}{u:Value}{Q:Unit->Shared->Prop}(I:Inv X pins σ H s)(b:X.N.Nodup)(hi:X.N[i]?=some x)(d:Loc X.env.scope x)(r:RelV v u)(h:∀s',Inv X pins (σ.set i (some v)) H s'->Q () s')(c:X.fn x=true\/X.env.scope.names.lookup x=some .local:=by first|exact .inl rfl|exact .inr rfl|assumption):wpAny M A (storeName X.env x u) Q E s:=u_ I b hi d r (λs' a _=>h s' a) c
theorem Inv.KG{s':Shared}{ch:List Addr}(I:Inv X pins σ H s)(ho:s'.os=s.os)(u:Un (kJ X.stack) ch H H' s.heap s'.heap)(bT:iZ X.prog X.w H' s'.heap)(d:AllBare s'.gens)(a:∀b∈ch,(b∈X.ex\/X.bQ.heap.objs.size<=b)/\b≠X.env.locals/\(∀x c,X.env.cells.lookup x=some c->c≠b)/\∀p∈X.pn++pins,p.1≠b):Inv X pins σ H' s':=by obtain⟨h',g',d',t',o'⟩:=s';have e:o'=s.os:=ho;subst e;exact I.call (g':=g') (t':=t') (d':=d') u bT d a
end
noncomputable abbrev XK:=Value->Option Addr->Hp->Prop
noncomputable abbrev St:=List (Option V)
noncomputable abbrev VK:=V->Hp->Prop
noncomputable abbrev TE:=St->Hp->VK->Prop
noncomputable abbrev TT:=St->Hp->(Bool->Hp->Prop)->Prop
noncomputable abbrev TA:=St->Hp->(List V->Hp->Prop)->Prop
structure Ends where
 nx:St->Hp->Prop
 rt:VK
 bk:St->Hp->Prop:=λ_ _=>False
 ct:St->Hp->Prop:=λ_ _=>False
noncomputable abbrev TS:=Ends->St->Hp->Prop
def EP(X:Cx)(pins:List (Addr×Obj))(σ:St)(Q:VK)(u:Value)(s':Shared):Prop:=∃v H',Inv X pins σ H' s'/\RelV v u/\Q v H'
def TP(X:Cx)(pins:List (Addr×Obj))(σ:St)(Q:Bool->Hp->Prop)(b:Bool)(s':Shared):Prop:=∃H',Inv X pins σ H' s'/\Q b H'
def AP(X:Cx)(pins:List (Addr×Obj))(σ:St)(Q:List V->Hp->Prop)(us:List Value)(s':Shared):Prop:=∃vs H',Inv X pins σ H' s'/\Vals vs us/\Q vs H'
noncomputable def SP(X:Cx)(pins:List (Addr×Obj))(D:Ends)(f:Flow)(s':Shared):Prop:=match f with| .next=>∃a H',Inv X pins a H' s'/\D.nx a H'| .brk=>∃a H',Inv X pins a H' s'/\D.bk a H'| .cont=>∃a H',Inv X pins a H' s'/\D.ct a H'| .ret u=>∃v a H',Inv X pins a H' s'/\RelV v u/\D.rt v H'
noncomputable def PE(X:Cx)(e:Expr)(t:TE):Prop:=∀(pins:List (Addr×Obj))(s:Shared)(σ:St)(H:Hp)(Q:VK),Inv X pins σ H s->t σ H Q->wpAny (model X.prog X.w) X.A (eval e X.env) (EP X pins σ Q) X.xe s
noncomputable def PT(X:Cx)(e:Expr)(t:TT):Prop:=∀(pins:List (Addr×Obj))(s:Shared)(σ:St)(H:Hp)(Q:Bool->Hp->Prop),Inv X pins σ H s->t σ H Q->wpAny (model X.prog X.w) X.A (isTrue e X.env (eval e X.env)) (TP X pins σ Q) X.xe s
noncomputable def PW(X:Cx)(e:Expr)(t:TT):Prop:=∀(whole:Sem Value)(pins:List (Addr×Obj))(s:Shared)(σ:St)(H:Hp)(Q:Bool->Hp->Prop),Inv X pins σ H s->t σ H Q->wpAny (model X.prog X.w) X.A (isTrue e X.env whole) (TP X pins σ Q) X.xe s
theorem PW.pt{X:Cx}{e:Expr}{t:TT}(h:PW X e t):PT X e t:=h _
noncomputable def PA(X:Cx)(es:List Expr)(t:TA):Prop:=∀(a:Pos)(pins:List (Addr×Obj))(s:Shared)(σ:St)(H:Hp)(Q:List V->Hp->Prop),Inv X pins σ H s->t σ H Q->wpAny (model X.prog X.w) X.A (spliced (backTo a (starEach es X.env))) (AP X pins σ Q) X.xe s
noncomputable def PS(X:Cx)(st:Stmt)(t:TS):Prop:=∀(pins:List (Addr×Obj))(s:Shared)(σ:St)(H:Hp)(D:Ends),Inv X pins σ H s->t D σ H->wpAny (model X.prog X.w) X.A (exec st X.env) (SP X pins D) X.xe s
noncomputable def kM(X:Cx)(st:List Stmt)(t:TS):Prop:=∀(pins:List (Addr×Obj))(s:Shared)(σ:St)(H:Hp)(D:Ends),Inv X pins σ H s->t D σ H->wpAny (model X.prog X.w) X.A (execs st X.env) (SP X pins D) X.xe s
theorem bE{c:Type}{t:Sem c}{Q b:c->Shared->Prop}{M:Model}{A:Around}{E:Value->Shared->Prop}{s:Shared}(h:wpAny M A t Q E s)(d:∀a s,Q a s->b a s):wpAny M A t b E s:=wpAny_mono h d λ_ _ x=>x
section
variable{X:Cx}
noncomputable def Dh(i:Nat):TE:=λσ H Q=>∃v,σ[i]?=some (some v)/\Q v H
noncomputable def tC(v:V):TE:=λ_ H Q=>Q v H
theorem RF{i:Nat}{x:Str}{g:Pos}(d:X.N[i]?=some x)(hv:YY X.env.scope x)(hd:(x==("__debug__":Str))=false:=by decide)(f:(x==("__classdict__":Str))=false:=by decide):PE X (.Name x g) (Dh i):=by
 intro pins s σ H Q I h;obtain⟨v,e,h⟩:=h;obtain⟨m,hn,hl⟩:=I.loc;obtain⟨u,r,l⟩:=hl i x v d e hv;have fin:EP X pins σ Q u s:=⟨v,H,I,r,h⟩;rcases l with⟨a,hm⟩|⟨a,c,hc,b⟩;·exact wpAny_Name (wpAny_loadName_local I.ok.kind a hn hm fin) hd
 ·rcases a with a|a;·exact wpAny_Name (wpAny_loadName_cell I.ok.kind a hc b fin) hd
  ·exact wpAny_Name (wpAny_loadName_free I.ok.kind a hc b fin f) hd
theorem aj{i j a}:PE X (.Constant (.int i) j a) (tC (.int i)):=λ_ _ _ H _ I h=>wpAny_Constant_int ⟨.int i,H,I.tok _,⟨_,rfl⟩,h⟩
theorem qV{b j a}:PE X (.Constant (.bool b) j a) (tC (.bl b)):=λ_ _ _ H _ I h=>Constant_bool ⟨.bl b,H,I,rfl,h⟩
theorem ni{j a}:PE X (.Constant .none j a) (tC .bA):=λ_ _ _ H _ I h=>Constant_none ⟨.bA,H,I,rfl,h⟩
theorem aq{x j a}:PE X (.Constant (.str x) j a) (tC (.str x)):=λ_ _ _ H _ I h=>Calls.Constant_str ⟨.str x,H,I.tok _,⟨_,rfl⟩,h⟩
def Gl(X:Cx)(x:Str):Prop:=X.env.kindOf x=some .globalImplicit
theorem jK{E:Value->Shared->Prop}{pins:List (Addr×Obj)}{s:Shared}{σ:St}{H:Hp}{x:Str}{u:Value}{b:Pos}{Q:Value->Shared->Prop}(I:Inv X pins σ H s)(a:Gl X x)(hm:X.mg x=some u)(h:Q u s)(hd:(x==("__debug__":Str))=false:=by decide):wpAny (model X.prog X.w) X.A (eval (.Name x b) X.env) Q E s:=Calls.Name_function_global I.ok.kind a (Calls.loadGlobal_global (by rw[I.ok.glob];exact I.mod.glob.keeps I.bk) hm h) hd
theorem gS{E:Value->Shared->Prop}{pins:List (Addr×Obj)}{s:Shared}{σ:St}{H:Hp}{x:Str}{u:Value}{b:Pos}{Q:Value->Shared->Prop}(I:Inv X pins σ H s)(a:Gl X x)(hm:X.mg x=none)(hv:bootBuiltins x=some u)(h:Q u s)(hn:x≠"__name__":=by decide)(hd:(x==("__debug__":Str))=false:=by decide):wpAny (model X.prog X.w) X.A (eval (.Name x b) X.env) Q E s:=by obtain⟨mb,h1,h2⟩:=I.mod.blt;exact Calls.Name_function_global I.ok.kind a (Calls.loadGlobal_builtin (by rw[I.ok.glob];exact I.mod.glob.keeps I.bk) hm (by rw[I.ok.blt];exact h1.keeps I.bk) ((h2 x hn).trans hv) h) hd
theorem zK{x:Str}{v:V}{u:Value}{b:Pos}(a:Gl X x)(hm:X.mg x=some u)(r:RelV v u)(hd:(x==("__debug__":Str))=false:=by decide):PE X (.Name x b) (tC v):=λ_ _ _ H _ I h=>jK I a hm ⟨v,H,I,r,h⟩ hd
theorem NO{x:Str}{v:V}{u:Value}{b:Pos}(a:Gl X x)(hm:X.mg x=none)(hv:bootBuiltins x=some u)(r:RelV v u)(hn:x≠"__name__":=by decide)(hd:(x==("__debug__":Str))=false:=by decide):PE X (.Name x b) (tC v):=λ_ _ _ H _ I h=>gS I a hm hv ⟨v,H,I,r,h⟩ hn hd
variable{a b:Expr}{ta tb:TE}{pos:Pos}
noncomputable def PC(X:Cx)(op:CmpOp)(a b:Expr)(t:TE):Prop:=∀(pins:List (Addr×Obj))(s:Shared)(σ:St)(H:Hp)(Q:VK),Inv X pins σ H s->t σ H Q->wpAny (model X.prog X.w) X.A (eval a X.env) (λv s₁=>wpAny (model X.prog X.w) X.A (eval b X.env) (λu s₂=>wpAny (model X.prog X.w) X.A (compareOp op v u) (EP X pins σ Q) X.xe s₂) X.xe s₁) X.xe s
noncomputable def tB(t:TE):TT:=λσ H Q=>t σ H λx d=>∃c,x= .bl c/\Q c d
theorem RM{op:CmpOp}{t:TE}(h:PC X op a b t)(h1:behindInMarks op b=false:=by first|exact j _ (by decide) (by decide)|rfl):PT X (.Compare a [op] [b] pos) (tB t):=by intro pins s σ H Q I hw;refine wpAny_isTrue_Compare1 (bE (h pins s σ H _ I hw) λv s1 h1=>bE h1 λu s2 h2=>bE h2 λc k i=>?_) h1;obtain⟨x,e,f,g,q1⟩:=i;obtain⟨d,rfl,q⟩:=q1;cases g;exact wpAny_truthy_bool ⟨e,f,q⟩
theorem dB{e:Expr}{t:TE}(h:PE X e t)(he:∀whole,isTrue e X.env whole=(do let v<-whole;standAt e.pos;holding [v] (truthy v)):=by intro _;rfl):PT X e (tB t):=by intro pins s σ H Q I hw;refine isTrue_plain (bE (h pins s σ H _ I hw) λv s1 i=>?_) (he _);obtain⟨x,c,f,g,q1⟩:=i;obtain⟨d,rfl,q⟩:=q1;cases g;exact wpAny_truthy_bool ⟨c,f,q⟩
variable{tA Y3:TT}{rest:List Expr}
noncomputable def aaP(t u:TT):TT:=λσ H Q=>t σ H λc d=>if c=true then u σ d Q else Q false d
noncomputable def tOr(t u:TT):TT:=λσ H Q=>t σ H λc d=>if c=true then Q true d else u σ d Q
noncomputable def aa0(t:TT):TT:=λσ H Q=>t σ H λc d=>Q (!c) d
theorem kX(ha:PT X a tA):PW X (.BoolOp .And [a] pos) tA:=by intro d pins s σ H Q I h;refine isTrue_and (bE (ha pins s σ H Q I h) λc s1 e=>?_);cases c with|true=>exact isTrue_and_nil e|false=>exact e
theorem fB(ha:PT X a tA):PW X (.BoolOp .Or [a] pos) tA:=by intro d pins s σ H Q I h;refine isTrue_or (bE (ha pins s σ H Q I h) λc s1 e=>?_);cases c with|false=>exact isTrue_or_nil e|true=>exact e
theorem sR(ha:PT X a tA)(hb:PW X (.BoolOp .And (b::rest) pos) Y3):PW X (.BoolOp .And (a::b::rest) pos) (aaP tA Y3):=by intro f pins s σ H Q I h;refine isTrue_and (bE (ha pins s σ H _ I h) λc s1 g=>?_);obtain⟨d,e,q1⟩:=g;cases c with|true=>exact hb f pins s1 σ d Q e q1|false=>exact⟨d,e,q1⟩
theorem fE(ha:PT X a tA)(hb:PW X (.BoolOp .Or (b::rest) pos) Y3):PW X (.BoolOp .Or (a::b::rest) pos) (tOr tA Y3):=by intro f pins s σ H Q I h;refine isTrue_or (bE (ha pins s σ H _ I h) λc s1 g=>?_);obtain⟨d,e,q1⟩:=g;cases c with|true=>exact⟨d,e,q1⟩|false=>exact hb f pins s1 σ d Q e q1
theorem nM(ha:PT X a tA):PT X (.UnaryOp .Not a pos) (aa0 tA):=by intro pins s σ H Q I h;exact isTrue_not (ha pins s σ H (λc d=>Q (!c) d) I h)
noncomputable def VO(ta tb:TE):TE:=λσ H Q=>ta σ H λx d=>∃c,x= .bl c/\if c=true then tb σ d Q else Q (.bl false) d
theorem yX{op}{t:TE}(h:PE X a t):PE X (.BoolOp op [a] pos) t:=λpins s σ H Q I hw=>BoolOp_one (h pins s σ H Q I hw)
theorem vR(ha:PE X a ta)(hb:PE X (.BoolOp .And (b::rest) pos) tb):PE X (.BoolOp .And (a::b::rest) pos) (VO ta tb):=by intro pins s σ H Q I h;refine BoolOp_and (bE (ha pins s σ H _ I h) λv s1 g=>?_);obtain⟨x,d,e,f,q1⟩:=g;obtain⟨c,rfl,q1⟩:=q1;cases f;refine wpAny_truthy_bool ?_;cases c with|true=>exact hb pins s1 σ d Q e q1|false=>exact⟨.bl false,d,e,rfl,q1⟩
noncomputable def tIf(t:TT)(ta tb:TE):TE:=λσ H Q=>t σ H λc d=>if c=true then ta σ d Q else tb σ d Q
theorem jC{c:Expr}(hc:PT X c tA)(ha:PE X a ta)(hb:PE X b tb):PE X (.IfExp c a b pos) (tIf tA ta tb):=by intro pins s σ H Q I h;refine wpAny_IfExp (bE (hc pins s σ H _ I h) λd s1 g=>?_);obtain⟨e,f,q1⟩:=g;cases d with|true=>exact ha pins s1 σ e Q f q1|false=>exact hb pins s1 σ e Q f q1
end
noncomputable def aZ(K:PySem.W.Frag)(H:Hp)(a:Addr)(xs:List V):Prop:=Rd H a (.lst xs)\/∃(o:Obj)(its:Array Value)(n:Nat),K.lookup a=some o/\o.cls= .type "list"/\o.dict=none/\o.data= .seq its n/\its.size<=sizeLine/\Vals xs its.toList
noncomputable def cu(K:PySem.W.Frag)(H:Hp)(a:Addr)(xs:List V):Prop:=Rd H a (.tup xs)\/∃(o:Obj)(its:Array Value)(n:Nat),K.lookup a=some o/\o.cls= .type "tuple"/\o.data= .seq its n/\its.size<=sizeLine/\Vals xs its.toList
noncomputable def aai:Value->Option V| .none=>some .bA| .bool b=>some (.bl b)| .int i _=>some (.int i)| .str x _=>some (.str x)| .bytes b _=>some (.Gx b)| .float b _=>some (.PQ b)| .ref a=>some (.ref a)| .type n=>some (.ty n)|_=>none
theorem RelV.abs{x:V}{u:Value}(r:RelV x u):aai u=some x:=by cases x with|bA=>cases r;rfl|bl _=>cases r;rfl|int _=>obtain⟨t,rfl⟩:=r;rfl|str _=>obtain⟨t,rfl⟩:=r;rfl|Gx _=>obtain⟨t,rfl⟩:=r;rfl|PQ _=>obtain⟨t,rfl⟩:=r;rfl|ref _=>cases r;rfl|ty _=>cases r;rfl
theorem RelV.inj{x y:V}{u:Value}(r:RelV x u)(q:RelV y u):x=y:=Option.some.inj (r.abs.symm.trans q.abs)
theorem Vals.inj:∀{xs ys:List V}{us:List Value},Vals xs us->Vals ys us->xs=ys|_,_,_, .nil, .nil=>rfl|_,_,_, .cons r t, .cons a t'=>by rw[r.inj a,Vals.inj t t']
section
variable{X:Cx}{pins:List (Addr×Obj)}{σ:St}{H:Hp}{s:Shared}{a:Addr}{xs ys:List V}
theorem aZ.of{K:PySem.W.Frag}(h:H a=some (.lst xs)):aZ K H a xs:= .inl (.inl h)
theorem cu.of{K:PySem.W.Frag}(h:H a=some (.tup xs)):cu K H a xs:= .inl (.inl h)
theorem Inv.list(I:Inv X pins σ H s)(h:aZ X.K H a xs):∃its:List Value,Vals xs its/\PlainL s.heap a its.toArray/\xs.length<=sizeLine:=by
 rcases h with h|⟨o,its,n,b,hc,hd,c,d,r⟩;·obtain⟨z,its,n,r,e⟩:=h.ok I.bT;exact⟨its,r,⟨_,n,e,rfl,rfl,rfl⟩,z⟩
 ·refine⟨its.toList,r,⟨o,n,I.jl a o b,hc,hd,by simpa using c⟩,?_⟩;have e:=r.length;simp only[Array.length_toList]at e;lia
theorem Inv.tuple(I:Inv X pins σ H s)(h:cu X.K H a xs):∃its:List Value,Vals xs its/\IsTup s.heap a its.toArray/\xs.length<=sizeLine:=by
 rcases h with h|⟨o,its,n,b,hc,c,d,r⟩;·obtain⟨z,its,r,p⟩:=h.ok I.bT;exact⟨its,r,p,z⟩
 ·refine⟨its.toList,r,⟨o,I.jl a o b,hc,n,by simpa using c⟩,?_⟩;have e:=r.length;simp only[Array.length_toList]at e;lia
theorem Inv.k9(I:Inv X pins σ H s)(h:aZ X.K H a xs)(h':aZ X.K H a ys):xs=ys:=by
 obtain⟨its,r,⟨o,n,e,_,_,d⟩,_⟩:=I.list h;obtain⟨its',f,⟨o',g,b,_,_,d'⟩,_⟩:=I.list h';rw[e]at b;cases b;rw[d]at d';injection d' with c _;have :its=its':=by simpa using congrArg Array.toList c
 subst this;exact r.inj f
theorem Inv.Hd(I:Inv X pins σ H s)(h:cu X.K H a xs)(h':cu X.K H a ys):xs=ys:=by
 obtain⟨its,r,⟨o,e,_,n,d⟩,_⟩:=I.tuple h;obtain⟨its',f,⟨o',b,_,g,d'⟩,_⟩:=I.tuple h';rw[e]at b;cases b;rw[d]at d';injection d' with c _;have :its=its':=by simpa using congrArg Array.toList c
 subst this;exact r.inj f
end
noncomputable abbrev Cx.tE(X:Cx)(E:Value->Shared->Prop):Cx:={X with xe:=E}
noncomputable abbrev Cx.JT(X:Cx):Cx:=X.tE λ_ _=>False
theorem Cx.Ok.tE{X:Cx}(ok:X.Ok)(E:Value->Shared->Prop):(X.tE E).Ok:=⟨ok.mod,ok.kind,ok.glob,ok.blt,ok.above,ok.inj,ok.has,ok.Yl,ok.hd,ok.frames,ok.YR,ok.YL,ok.bs,ok.HJ,ok.Di,ok.Gn,ok.pb,ok.Rk⟩
theorem Cx.Ok.iG{X:Cx}{E:Value->Shared->Prop}(ok:(X.tE E).Ok):X.Ok:=⟨ok.mod,ok.kind,ok.glob,ok.blt,ok.above,ok.inj,ok.has,ok.Yl,ok.hd,ok.frames,ok.YR,ok.YL,ok.bs,ok.HJ,ok.Di,ok.Gn,ok.pb,ok.Rk⟩
section
variable{X:Cx}{pins:List (Addr×Obj)}{σ:St}{H:Hp}{s:Shared}{E:Value->Shared->Prop}
theorem Inv.tE(I:Inv X pins σ H s)(E:Value->Shared->Prop):Inv (X.tE E) pins σ H s:=⟨I.ok.tE E,I.os,I.bare,I.base,I.loc,I.cell,I.free,I.g9,I.pin,I.bT,I.len⟩
theorem Inv.iG(I:Inv (X.tE E) pins σ H s):Inv X pins σ H s:=⟨I.ok.iG,I.os,I.bare,I.base,I.loc,I.cell,I.free,I.g9,I.pin,I.bT,I.len⟩
theorem SP.iG{D:Ends}{f:Flow}{s':Shared}(h:SP (X.tE E) pins D f s'):SP X pins D f s':=by cases f with|next=>obtain⟨a,H',I,q⟩:=h;exact⟨a,H',I.iG,q⟩|brk=>obtain⟨a,H',I,q⟩:=h;exact⟨a,H',I.iG,q⟩|cont=>obtain⟨a,H',I,q⟩:=h;exact⟨a,H',I.iG,q⟩|ret u=>obtain⟨v,a,H',I,r,q⟩:=h;exact⟨v,a,H',I.iG,r,q⟩
theorem kM.JT{st:List Stmt}{t:TS}(h:kM X.JT st t):kM X st t:=λpins s σ H D I hw=>wpAny_mono (h pins s σ H D (I.tE _) hw) (λ_ _ q=>q.iG) λ_ _ z=>False.elim z
end
section
variable{X:Cx}{st:Stmt}{rest:List Stmt}{t u:TS}{e:Expr}{te:TE}{pos:Pos}
noncomputable def WN:TS:=λD σ H=>D.nx σ H
noncomputable def aL(t u:TS):TS:=λD σ H=>t {D with nx:=u D} σ H
theorem aC:kM X [] WN:=λ_ _ σ H _ I h=>wpAny_execs_nil ⟨σ,H,I,h⟩
theorem ag(h1:PS X st t)(h2:kM X rest u):kM X (st::rest) (aL t u):=by intro pins s σ H D I h;refine wpAny_execs_cons (bE (h1 pins s σ H {D with nx:=u D} I h) λf s1 q=>?_);cases f with|next=>obtain⟨b,H',a,q⟩:=q;exact h2 pins s1 b H' D a q|ret v=>exact q|brk=>exact q|cont=>exact q
theorem ai(h1:PS X st t):kM X [st] t:=by intro pins s σ H D I h;refine wpAny_execs_cons (bE (h1 pins s σ H D I h) λf s1 q=>?_);cases f with|next=>exact wpAny_execs_nil q|ret v=>exact q|brk=>exact q|cont=>exact q
theorem Inv.quiet{pins:List (Addr×Obj)}{σ:St}{H:Hp}{s:Shared}(I:Inv X pins σ H s):interactive X.env=false:=by simp[interactive,I.ok.kind]
noncomputable def W3(te:TE):TS:=λD σ H=>te σ H λ_ a=>D.nx σ a
theorem dq(he:PE X e te)(c:swapsWith e none pos.line X.env=pure false:=by rfl):PS X (.Expr e pos) (W3 te):=by intro pins s σ H D I h;exact wpAny_Expr_any (bE (he pins s σ H _ I h) λv s1⟨x,a,b,d,q1⟩=>⟨σ,a,b,q1⟩) I.quiet c
noncomputable def UH(te:TE):TS:=λD σ H=>te σ H D.rt
theorem aA(he:PE X e te):PS X (.Return (some e) pos) (UH te):=by intro pins s σ H D I h;exact wpAny_Return_some (bE (he pins s σ H _ I h) λv s1⟨x,a,b,c,q1⟩=>⟨x,σ,a,b,c,q1⟩)
noncomputable def aat(c:TT)(t u:TS):TS:=λD σ H=>c σ H λb a=>if b=true then t D σ a else u D σ a
theorem aT{c:Expr}{a b:List Stmt}{i:TT}(hc:PT X c i)(ha:kM X a t)(hb:kM X b u):PS X (.If c a b pos) (aat i t u):=by intro pins s σ H D I h;refine wpAny_If (bE (hc pins s σ H _ I h) λd s1 j=>?_);obtain⟨f,g,q1⟩:=j;cases d with|true=>exact ha pins s1 σ f D g q1|false=>exact hb pins s1 σ f D g q1
end
noncomputable abbrev TG:=V->St->Hp->(St->Hp->Prop)->Prop
noncomputable abbrev TM:=List V->St->Hp->(St->Hp->Prop)->Prop
noncomputable def PG(X:Cx)(target:Expr)(t:TG):Prop:=∀(pins:List (Addr×Obj))(s:Shared)(σ:St)(H:Hp)(v:V)(u:Value)(Q:St->Hp->Prop),Inv X pins σ H s->RelV v u->t v σ H Q->wpAny (model X.prog X.w) X.A (assign target X.env u) (λ_ s'=>∃a H',Inv X pins a H' s'/\Q a H') X.xe s
noncomputable def BA(X:Cx)(b:List Expr)(t:TM):Prop:=∀(pins:List (Addr×Obj))(s:Shared)(σ:St)(H:Hp)(vs:List V)(us:List Value)(Q:St->Hp->Prop),Inv X pins σ H s->Vals vs us->t vs σ H Q->wpAny (model X.prog X.w) X.A (assignInOrder ((assignEach b X.env).map (·.2)) us) (λ_ s'=>∃a H',Inv X pins a H' s'/\Q a H') X.xe s
noncomputable abbrev Sb:=V->V->V->Hp->(Hp->Prop)->Prop
noncomputable def VX(X:Cx)(t:Sb):Prop:=∀(pins:List (Addr×Obj))(s:Shared)(σ:St)(H:Hp)(o i v:V)(b a u:Value)(Q:Hp->Prop),Inv X pins σ H s->RelV o b->RelV i a->RelV v u->t o i v H Q->wpAny (model X.prog X.w) X.A (setItem b a u) (λ_ s'=>∃H',Inv X pins σ H' s'/\Q H') X.xe s
noncomputable abbrev Y5:=V->V->Hp->VK->Prop
noncomputable def PIp(X:Cx)(op:Operator)(t:Y5):Prop:=∀(pins:List (Addr×Obj))(s:Shared)(σ:St)(H:Hp)(x y:V)(v u:Value)(Q:VK),Inv X pins σ H s->RelV x v->RelV y u->t x y H Q->wpAny (model X.prog X.w) X.A (inplaceOp op v u) (EP X pins σ Q) X.xe s
section
variable{X:Cx}{pos:Pos}
noncomputable def sj(i:Nat):TG:=λv σ H Q=>Q (σ.set i (some v)) H
theorem bb{i:Nat}{x:Str}(b:X.N.Nodup)(hi:X.N[i]?=some x)(d:Loc X.env.scope x)(c:X.fn x=true\/X.env.scope.names.lookup x=some .local:=by first|exact .inl rfl|exact .inr rfl|assumption):PG X (.Name x pos) (sj i):=by intro pins s σ H v u Q I r h;exact wpAny_assign_Name (lB I b hi d r (λs' a=>⟨_,H,a,h⟩) c)
noncomputable def aa1:TM:=λvs σ H Q=>vs=[]/\Q σ H
noncomputable def Wg(t:TG)(u:TM):TM:=λvs σ H Q=>∃v r,vs=v::r/\t v σ H λa H'=>u r a H' Q
theorem FD:BA X [] aa1:=by intro pins s σ H vs us Q I r h;obtain⟨e,h⟩:=h;subst e;cases r;exact assignInOrder_nil ⟨σ,H,I,h⟩
theorem kW{e:Expr}{es:List Expr}{t:TG}{u:TM}(h1:PG X e t)(h2:BA X es u)(d:(assignEach (e::es) X.env).map (·.2)=assign e X.env::(assignEach es X.env).map (·.2):=by rfl):BA X (e::es) (Wg t u):=by intro pins s σ H vs us Q I r h;obtain⟨v,j,c,h⟩:=h;subst c;cases r with|cons r f=>rw[d];refine assignInOrder_cons (bE (h1 pins s σ H _ _ _ I r h) λ_ s1 g=>?_);obtain⟨i,a,b,q1⟩:=g;exact h2 pins s1 i a _ _ Q b f q1
noncomputable def aax(K:PySem.W.Frag)(n:Nat)(t:TM):TG:=λv σ H Q=>∃a xs,v= .ref a/\cu K H a xs/\xs.length=n/\t xs σ H Q
theorem H_{es:List Expr}{k:Nat}{t:TM}{n:Nat}(hc:X.calm=true)(h:BA X es t)(hn:(assignEach es X.env).length=n:=by rfl)(g:(assignEach es X.env).findIdx? (·.1)=none:=by rfl):PG X (.Tuple es k pos) (aax X.K n t):=by intro pins s σ H v u Q I r hw;obtain⟨a,xs,f,hq,hl,hw⟩:=hw;subst f;cases r;obtain⟨its,c,ht,j⟩:=I.tuple hq;refine MG (I.hb hc) (show s.heap.IsTuple a its.toArray from ht) (by simp[hn,<-hl,c.length]) g λh' i=>?_;have d:Inv X pins σ H {s with heap:=h'}:=I.kept (t':=s.toks) λb o e=>i b o (zQ18 (zQ09 e)) e;exact h pins _ σ H xs _ Q d (by simpa using c) hw
noncomputable def aaS(to d:TE)(t:Sb):TG:=λv σ H Q=>to σ H λo a=>d σ a λi b=>t o i v b λc=>Q σ c
theorem Kt{o i:Expr}{to d:TE}{t:Sb}(ho:PE X o to)(hi:PE X i d)(m:VX X t)(ha:∀v,assign (.Subscript o i pos) X.env v=(do let a<-holding [v] (eval o X.env);let b<-holding [v,a] (eval i X.env);standAt pos;holding [v,a,b] (setItem a b v);release [v,a,b] []):=by intro _;rfl):PG X (.Subscript o i pos) (aaS to d t):=by intro pins s σ H v u Q I r h;rw[ha];refine zQ00 (fW (bE (ho pins s σ H _ I h) λa s1 c=>?_));obtain⟨x,e,j,n,q1⟩:=c;refine zQ00 (fW (bE (hi pins s1 σ e _ j q1) λb s2 c=>?_));obtain⟨y,f,k,p,q2⟩:=c;refine zQ00 (wpAny_standAt (zQ00 (fW (bE (m pins s2 σ f x y v a b u _ k n p r q2) λ_ q c=>?_))));obtain⟨g,l,q3⟩:=c;exact wpAny_release ⟨σ,g,l,q3⟩
noncomputable def MP(b:TE)(g:TG):TS:=λD σ H=>b σ H λx a=>g x σ a D.nx
theorem Ip{tg e:Expr}{a:TE}{g:TG}(he:PE X e a)(d:PG X tg g)(f:swapsWithSole [tg] e pos.line X.env=pure false:=by rfl)(hw:swappedStores [tg] e X.env=pure none:=by rfl)(h1:(assignEach [tg] X.env).map (·.2)=[assign tg X.env]:=by rfl):PS X (.Assign [tg] e pos) (MP a g):=by intro pins s σ H D I h;refine wpAny_Assign_stores (bE (he pins s σ H _ I h) λv s1 j=>?_) f hw;obtain⟨x,b,c,i,q1⟩:=j;rw[h1];exact bE (d pins s1 σ b x v _ c i q1) λ_ s2 q=>q
theorem aI{i:Nat}{x:Str}{e:Expr}{a:TE}{pos':Pos}(f:X.N.Nodup)(hi:X.N[i]?=some x)(k:Loc X.env.scope x)(he:PE X e a)(j:swapsWith e (some (.Name x pos')) pos.line X.env=pure false:=by rfl)(g:X.fn x=true\/X.env.scope.names.lookup x=some .local:=by first|exact .inl rfl|exact .inr rfl|assumption):PS X (.Assign [.Name x pos'] e pos) (MP a (sj i)):=by intro pins s σ H D I h;refine wpAny_Assign_Name (bE (he pins s σ H _ I h) λv s1 m=>?_) j;obtain⟨y,b,c,l,q1⟩:=m;exact lB c f hi k l (λs2 d=>⟨_,b,d,q1⟩) g
noncomputable def aad(i:Nat)(c:TE)(d:Y5):TS:=λD σ H=>∃x,σ[i]?=some (some x)/\c σ H λy a=>d x y a λz b=>D.nx (σ.set i (some z)) b
theorem sY{i:Nat}{x:Str}{e:Expr}{f:TE}{op:Operator}{g:Y5}{pos':Pos}(A:X.N.Nodup)(hi:X.N[i]?=some x)(b:Loc X.env.scope x)(he:PE X e f)(ho:PIp X op g)(C:X.fn x=true\/X.env.scope.names.lookup x=some .local:=by first|exact .inl rfl|exact .inr rfl|assumption):PS X (.AugAssign (.Name x pos') op e pos) (aad i f g):=by
 intro pins s σ H D I h;obtain⟨v,t,h⟩:=h;obtain⟨m,hn,hl⟩:=I.loc;have J:YY X.env.scope x:=by rcases b with k|k;exact .inl k;exact .inr (.inl k)
 obtain⟨u,r,l⟩:=hl i x v hi t J;refine wpAny_AugAssign_Name ?_;have go:wpAny (model X.prog X.w) X.A (eval e X.env) (λw s₂=>wpAny (model X.prog X.w) X.A (inplaceOp op u w) (λr G=>wpAny (model X.prog X.w) X.A (storeName X.env x r) (λ_=>SP X pins D .next) X.xe G) X.xe s₂) X.xe s:=by refine bE (he pins s σ H _ I h) λw s1 d=>?_;obtain⟨y,j,o,E,q1⟩:=d;refine bE (ho pins s1 σ j v y u w _ o r E q1) λz s2 d=>?_;obtain⟨L,n,p,F,q2⟩:=d;exact lB p A hi b F (λK q=>⟨_,n,q,q2⟩) C
 rcases l with⟨a,hm⟩|⟨a,c,hc,B⟩;·exact wpAny_loadName_local I.ok.kind a hn hm go
 ·rcases a with a|a;·exact wpAny_loadName_cell I.ok.kind a hc B go
  ·rcases b with k|k;·have :X.env.scope.names.lookup x=some .free:=a;rw[k]at this;cases this
   ·have :X.env.scope.names.lookup x=some .free:=a;rw[k]at this;cases this
noncomputable def ipI(f:Int->Int->Int):Y5:=λx y H Q=>∃i j,x= .int i/\y= .int j/\Q (.int (f i j)) H
theorem rZ:PIp X .Add (ipI λi j=>i+j):=by intro pins s σ H x y v u Q I c d h;obtain⟨i,j,a,b,q⟩:=h;subst a;subst b;obtain⟨t,rfl⟩:=c;obtain⟨t',rfl⟩:=d;exact iadd_int ⟨.int _,H,I.tok _,⟨_,rfl⟩,q⟩
end
section
variable{X:Cx}{pos:Pos}
noncomputable def Rq(c:TT)(tb:TS):TS:=λD σ H=>∃W:Nat->St->Hp->Prop,(∃m,W m σ H)/\∀m σ H,W m σ H->c σ H λb a=>if b=true then∃N:St->Hp->Prop,(∀e H',N e H'->∃d,d<m/\W d e H')/\tb {D with nx:=N,ct:=N,bk:=D.nx} σ a else D.nx σ a
theorem tW{c:Expr}{body:List Stmt}{r:TT}{tb:TS}(q:PassesOwn (model X.prog X.w) X.A X.env X.xe)(hc:PT X c r)(hb:kM X body tb):PS X (.While c body [] pos) (Rq r tb):=by
 intro pins s σ H D I h;obtain⟨W,⟨w,w0⟩,turn⟩:=h;refine wpAny_While (codeAny_whileLoop (λn s'=>∃t H',Inv X pins t H' s'/\W n t H') ?_ w ⟨σ,H,I,w0⟩);rintro n s1⟨e,l,u,x⟩;refine wpAny_passesOwn q (bE (hc pins s1 e l _ u (turn n e l x)) λb s2 y=>?_);obtain⟨m,o,q2⟩:=y;cases b with
  |true=>obtain⟨N,p,q2⟩:=q2;rw[if_pos rfl];refine wpAny_passesOwn q (bE (hb pins s2 e m _ o q2) λf z q3=>?_);cases f with|next=>obtain⟨d,a,g,j⟩:=q3;obtain⟨i,hm,k⟩:=p d a j;exact⟨i,hm,d,a,g,k⟩|cont=>obtain⟨d,a,g,j⟩:=q3;obtain⟨i,hm,k⟩:=p d a j;exact⟨i,hm,d,a,g,k⟩|brk=>exact q3|ret v=>exact q3
  |false=>rw[if_neg eE];exact wpAny_execs_nil ⟨e,m,o,q2⟩
end
structure It where
 go:Nat->Hp->Prop
 An:Nat->Hp->V->Hp->Prop
 stop:Nat->Hp->Prop
noncomputable def lq(X:Cx)(pins:List (Addr×Obj))(H:Hp)(b:Addr):Prop:=H b=none/\b≠X.env.locals/\b∉X.fs/\(b∈X.ex\/X.bQ.heap.objs.size<=b)/\(∀x c,X.env.cells.lookup x=some c->c≠b)/\∀p∈X.pn++pins,p.1≠b
theorem Inv.GP{X:Cx}{pins:List (Addr×Obj)}{σ:St}{H H':Hp}{s:Shared}{b:Addr}(I:Inv X pins σ H s)(hb:s.heap.objs.size<=b)(hn:H' b=none):lq X pins H' b:=by
 refine⟨hn,Nat.ne_of_gt (gc I.lt hb),I.aaD hb, .inr (cw I.sz hb),λx c e z=>?_,λp a z=>?_⟩;·obtain⟨v,q⟩:=I.cell x c e;exact absurd (gc q.lt (by rw[z];exact hb)) (Nat.lt_irrefl _)
 ·exact absurd (gc (zQ09 (I.pin p a).1) (by rw[z];exact hb)) (Nat.lt_irrefl _)
structure Turn(P:Program)(w:World)(K:PySem.W.Frag)(tg:Expr)(J:It)(fp:List Addr)(it:Addr)(tn:Nat->Heap->Prop):Prop where
 mem:it∈fp
 obj:∀i h,tn i h->∀b∈fp,∃o,h.get? b=some o/\∀v,o.data≠ .cell v
 keep:∀i h h',tn i h->(∀b∈fp,∀o,h.get? b=some o->h'.get? b=some o)->tn i h'
 item:∀(X:Cx),X.prog=P->X.w=w->X.K=K->X.calm=true->∀(i:Nat)(pins:List (Addr×Obj))(s:Shared)(σ:St)(H:Hp)(E:Value->Shared->Prop),Inv X pins σ H s->(∀b∈fp,lq X pins H b)->tn i s.heap->J.go i H->wpAny (model P w) X.A (pyNext (.ref it)) (λr s1=>∃u,r=some u/\wpAny (model P w) X.A (letOwnedTupleGo tg (.ref it) u) (λ_ s2=>∃x H',Inv X pins σ H' s2/\RelV x u/\J.An i H x H'/\tn (i+1) s2.heap/\∀b∈fp,H' b=none) E s1) E s
 done:∀(X:Cx),X.prog=P->X.w=w->X.K=K->X.calm=true->∀(i:Nat)(pins:List (Addr×Obj))(s:Shared)(σ:St)(H:Hp)(E:Value->Shared->Prop),Inv X pins σ H s->(∀b∈fp,lq X pins H b)->tn i s.heap->J.stop i H->wpAny (model P w) X.A (pyNext (.ref it)) (λr s1=>r=none/\Inv X pins σ H s1) E s
 self:∀(A:Around)(i:Nat)(s:Shared)(Q:Value->Shared->Prop)(E:Value->Shared->Prop),tn i s.heap->Q (.ref it) s->wpAny (model P w) A (pyIter (.ref it)) Q E s
noncomputable abbrev TI:=St->Hp->(It->Hp->Prop)->Prop
noncomputable def PIE(X:Cx)(pins:List (Addr×Obj))(σ:St)(tg:Expr)(R:It->Hp->Prop)(a:Value)(s2:Shared):Prop:=∃(it:Addr)(fp:List Addr)(tn:Nat->Heap->Prop)(J:It)(H':Hp),a= .ref it/\Inv X pins σ H' s2/\Turn X.prog X.w X.K tg J fp it tn/\tn 0 s2.heap/\(∀b∈fp,lq X pins H' b)/\R J H'
noncomputable def PI(X:Cx)(tg iter:Expr)(a:TI):Prop:=∀(pins:List (Addr×Obj))(s:Shared)(σ:St)(H:Hp)(R:It->Hp->Prop),Inv X pins σ H s->a σ H R->wpAny (model X.prog X.w) X.A (eval iter X.env) (λv s1=>wpAny (model X.prog X.w) X.A (pyIter v) (PIE X pins σ tg R) X.xe s1) X.xe s
theorem Bf{M:Model}{A:Around}{E:Value->Shared->Prop}{s:Shared}{tg:Expr}{it:Addr}{u:Value}{o:Obj}{n:String}{vs:Array Value}{Q:Unit->Shared->Prop}(ho:s.heap.get? it=some o)(hc:o.cls= .type n)(hd:o.data= .fields vs)(hn:["enumerate","zip","dict_itemiterator","dict_reverseitemiterator","odict_iterator","itertools.zip_longest","itertools.pairwise"].contains n=false)(a:Q () s):wpAny M A (letOwnedTupleGo tg (.ref it) u) Q E s:=by unfold letOwnedTupleGo;cases tg<;>first|exact zQ02 a|(cases u<;>first|exact zQ02 a|(refine zQ00 (wpAny_load ho ?_);rw[hc,hd];show wpAny M A (if(["enumerate","zip","dict_itemiterator","dict_reverseitemiterator","odict_iterator","itertools.zip_longest","itertools.pairwise"].contains n&&vs[0]?==some (rawInt _))=true then _ else _) Q E s;rw[if_neg (by intro h;rw[hn,Bool.false_and]at h;cases h)];exact zQ02 a))
noncomputable def Vx(K:PySem.W.Frag)(a:Addr):It:=⟨λi H=>∃xs x,aZ K H a xs/\xs[i]?=some x,λi H x H'=>H'=H/\∀xs,aZ K H a xs->xs[i]?=some x,λi H=>∃xs,aZ K H a xs/\xs.length<=i⟩
noncomputable def Itt(K:PySem.W.Frag)(a:Addr):It:=⟨λi H=>∃xs x,cu K H a xs/\xs[i]?=some x,λi H x H'=>H'=H/\∀xs,cu K H a xs->xs[i]?=some x,λi H=>∃xs,cu K H a xs/\xs.length<=i⟩
noncomputable def R4(lo:Int)(n:Nat):It:=⟨λi _=>i<n,λi H x H'=>H'=H/\x= .int (lo+i),λi _=>n<=i⟩
theorem GG{P:Program}{w:World}{K:PySem.W.Frag}{tg:Expr}(a it:Addr):Turn P w K tg (Vx K a) [it] it (λi h=>h.IsListIter it a i)where
 mem:=by simp
 obj:=λi h st b hb=>by
  have e:b=it:=by simpa using hb
  subst e;obtain⟨o,e,c,d⟩:=st;exact⟨o,e,λv z=>by rw[d]at z;cases z⟩
 keep:=λi h h' st k=>st.at λo e=>k it (by simp) o e;item:=by intro X q hw n hc i pins s σ H E I j st r;subst q hw n;obtain⟨xs,x,hq,t⟩:=r;obtain⟨its,y,p,F⟩:=I.list hq;obtain⟨u,C,G⟩:=y.get t;obtain⟨l,f1,f2,f,m,g⟩:=j it (by simp);refine wpAny_pyNext_list_item st p.isList (x:=u) (by simpa using C) λh' mX sb=>?_;have A:Inv X pins σ H {s with heap:=h'}:=I.turned (t':=s.toks) (λb o hb e=>(sb.2 b hb).trans e) l f1 f m g;obtain⟨o,e,c,d⟩:=id mX;exact⟨u,rfl,Bf (s:={s with heap:=h'}) e c d (by decide) ⟨x,H,A,G,⟨rfl,λys D=>by rw[I.k9 D hq];exact t⟩,mX,λb hb=>(j b hb).1⟩⟩
 done:=by intro X q hw n hc i pins s σ H E I j st r;subst q hw n;obtain⟨xs,hq,t⟩:=r;obtain⟨its,y,p,F⟩:=I.list hq;obtain⟨l,f1,f2,f,m,g⟩:=j it (by simp);have hl:=y.length;exact jW (I.hb hc) (I.O5 hc f g) st p.isList (by simp;lia) λh' B=>⟨rfl,I.turned (t':=s.toks) (λb o hb e=>B b o hb e) l f1 f m g⟩
 self:=λ_ _ _ _ _ st h=>wpAny_pyIter_listiter st h
theorem DJ{P:Program}{w:World}{K:PySem.W.Frag}{tg:Expr}(a it:Addr):Turn P w K tg (Itt K a) [it] it (λi h=>h.IsTupleIter it a i)where
 mem:=by simp
 obj:=λi h st b hb=>by
  have e:b=it:=by simpa using hb
  subst e;obtain⟨o,e,c,d⟩:=st;exact⟨o,e,λv z=>by rw[d]at z;cases z⟩
 keep:=λi h h' st k=>st.at λo e=>k it (by simp) o e;item:=by intro X q hw n hc i pins s σ H E I j st r;subst q hw n;obtain⟨xs,x,hq,t⟩:=r;obtain⟨its,y,p,F⟩:=I.tuple hq;obtain⟨u,C,G⟩:=y.get t;obtain⟨l,f1,f2,f,m,g⟩:=j it (by simp);refine wpAny_pyNext_tuple_item st (show s.heap.IsTuple a its.toArray from p) (x:=u) (by simpa using C) λh' mX sb=>?_;have A:Inv X pins σ H {s with heap:=h'}:=I.turned (t':=s.toks) (λb o hb e=>(sb.2 b hb).trans e) l f1 f m g;obtain⟨o,e,c,d⟩:=id mX;exact⟨u,rfl,Bf (s:={s with heap:=h'}) e c d (by decide) ⟨x,H,A,G,⟨rfl,λys D=>by rw[I.Hd D hq];exact t⟩,mX,λb hb=>(j b hb).1⟩⟩
 done:=by intro X q hw n hc i pins s σ H E I j st r;subst q hw n;obtain⟨xs,hq,t⟩:=r;obtain⟨its,y,p,F⟩:=I.tuple hq;obtain⟨l,f1,f2,f,m,g⟩:=j it (by simp);have hl:=y.length;exact next_tuple_end (I.hb hc) (I.O5 hc f g) st (show s.heap.IsTuple a its.toArray from p) (by simp;lia) λh' B=>⟨rfl,I.turned (t':=s.toks) (λb o hb e=>B b o hb e) l f1 f m g⟩
 self:=λ_ _ _ _ _ st h=>wpAny_pyIter_tupleiter st h
theorem Dc{P:Program}{w:World}{K:PySem.W.Frag}{tg:Expr}(it:Addr)(lo:Int)(n:Nat):Turn P w K tg (R4 lo n) [it] it (λi h=>IsRangeIter h it (lo+(i:Nat)*1) ((n:Int)-(i:Nat)) 1)where
 mem:=by simp
 obj:=λi h st b hb=>by
  have e:b=it:=by simpa using hb
  subst e;exact⟨_,st,λv z=>by have u:Data.fields _=Data.cell v:=z;cases u⟩
 keep:=λi h h' st k=>k it (by simp) _ st;item:=by intro X l hw j hc i pins s σ H E I a st m;subst l hw j;obtain⟨c,f1,f2,d,f,g⟩:=a it (by simp);refine DR m st λv h' tk hv mX r=>?_;obtain⟨t,rfl⟩:=hv;have p:Inv X pins σ H {s with heap:=h',toks:=tk}:=I.turned (λb o hb e=>r b o (by simpa using hb) e) c f1 d f g;refine⟨_,rfl,Bf (s:={s with heap:=h',toks:=tk}) (n:="range_iterator") mX rfl rfl (by decide) ⟨.int (lo+i),H,p,⟨t,?_⟩,⟨rfl,rfl⟩,mX,λb hb=>(a b hb).1⟩⟩;rw[Int.mul_one]
 done:=by intro X l hw j hc i pins s σ H E I a st m;subst l hw j;obtain⟨c,f1,f2,d,f,g⟩:=a it (by simp);exact qT (I.hb hc) st (by have :n<=i:=m;lia) λh' q=>⟨rfl,I.turned (t':=s.toks) (λb o hb e=>q b o hb e) c f1 d f g⟩
 self:=λ_ _ _ _ _ st h=>wpAny_pyIter_rangeiter st h
section
variable{X:Cx}{tg:Expr}
noncomputable def WE(K:PySem.W.Frag)(tl:TE):TI:=λσ H R=>tl σ H λx b=>∃a,x= .ref a/\(∃xs,aZ K b a xs)/\R (Vx K a) b
noncomputable def ZX(K:PySem.W.Frag)(tl:TE):TI:=λσ H R=>tl σ H λx b=>∃a,x= .ref a/\(∃xs,cu K b a xs)/\R (Itt K a) b
theorem iC{l:Expr}{tl:TE}(hl:PE X l tl):PI X tg l (WE X.K tl):=by
 intro pins s σ H R I h;refine bE (hl pins s σ H _ I h) λv s1 g=>?_;obtain⟨x,d,c,f,q1⟩:=g;obtain⟨a,e,⟨xs,hq⟩,q⟩:=q1;subst e;cases f;obtain⟨its,j,p,i⟩:=c.list hq;refine wpAny_pyIter_list p.isList ?_;refine⟨s1.heap.objs.size,[s1.heap.objs.size],_,_,d,rfl,c.kept (t':=s1.toks) λb o e=>zQ01 _ e,GG a _,⟨_,zQ12 _ rfl,rfl,rfl⟩,λb hb=>?_,q⟩;have e:b=s1.heap.objs.size:=by simpa using hb
 subst e;exact c.GP (zQ04 _) (c.bT.fresh (zQ04 _))
theorem zr{l:Expr}{tl:TE}(hl:PE X l tl):PI X tg l (ZX X.K tl):=by
 intro pins s σ H R I h;refine bE (hl pins s σ H _ I h) λv s1 g=>?_;obtain⟨x,d,c,f,q1⟩:=g;obtain⟨a,e,⟨xs,hq⟩,q⟩:=q1;subst e;cases f;obtain⟨its,j,p,i⟩:=c.tuple hq;refine wpAny_pyIter_tuple (show s1.heap.IsTuple a its.toArray from p) ?_;refine⟨s1.heap.objs.size,[s1.heap.objs.size],_,_,d,rfl,c.kept (t':=s1.toks) λb o e=>zQ01 _ e,DJ a _,⟨_,zQ12 _ rfl,rfl,rfl⟩,λb hb=>?_,q⟩;have e:b=s1.heap.objs.size:=by simpa using hb
 subst e;exact c.GP (zQ04 _) (c.bT.fresh (zQ04 _))
theorem B0{pins:List (Addr×Obj)}{σ:St}{H:Hp}{s:Shared}{R:It->Hp->Prop}{E:Value->Shared->Prop}{lo hi:Int}{t u v:Tok}{tk:Nat}(I:Inv X pins σ H s)(h1:-(2^62)<=lo)(h2:lo<2^62)(h3:-(2^62)<=hi)(h4:hi<2^62)(q:R (R4 lo (hi-lo).toNat) H):wpAny (model X.prog X.w) X.A (pyIter (.ref s.heap.objs.size)) (PIE X pins σ tg R) E {s with heap:=s.heap.push {cls:= .type "range",data:= .fields #[.int lo t, .int hi u, .int 1 v]},toks:=tk}:=by
 refine wpAny_pyIter_range (IsRange.new ..) (small_one h1 h2 h3 h4) ?_;have a:Inv X pins σ H {s with heap:=s.heap.push {cls:= .type "range",data:= .fields #[.int lo t, .int hi u, .int 1 v]},toks:=tk}:=I.kept λb o e=>zQ01 _ e;refine⟨(s.heap.push {cls:= .type "range",data:= .fields #[.int lo t, .int hi u, .int 1 v]}).objs.size,[(s.heap.push {cls:= .type "range",data:= .fields #[.int lo t, .int hi u, .int 1 v]}).objs.size],_,_,H,rfl,a.kept (t':=tk) λb o e=>zQ01 _ e,Dc _ lo (hi-lo).toNat,?_,λb hb=>?_,q⟩
 ·have c:lo+((0:Nat):Int)*1=lo:=by simp
  have d:(((hi-lo).toNat:Nat):Int)-((0:Nat):Int)=Builtin.Range.rangeSize lo hi 1:=by rw[rangeSize_one];split<;>lia
  show IsRangeIter _ _ (lo+((0:Nat):Int)*1) ((((hi-lo).toNat:Nat):Int)-((0:Nat):Int)) 1;rw[c,d];exact zQ12 _ rfl
 ·have e:b=(s.heap.push {cls:= .type "range",data:= .fields #[.int lo t, .int hi u, .int 1 v]}).objs.size:=by simpa using hb
  subst e;exact a.GP (zQ04 _) (a.bT.fresh (zQ04 _))
noncomputable def Vk(b:TA):TI:=λσ H R=>b σ H λvs a=>∃j:Int,vs=[.int j]/\-(2^62)<=j/\j<2^62/\R (R4 0 j.toNat) a
noncomputable def VA(b:TA):TI:=λσ H R=>b σ H λvs a=>∃i j:Int,vs=[.int i, .int j]/\(-(2^62)<=i/\i<2^62/\-(2^62)<=j/\j<2^62)/\R (R4 i (j-i).toNat) a
theorem dP{a:Expr}{c:TA}{p b:Pos}(f:Gl X "range")(hm:X.mg "range"=none)(ha:PA X [a] c)(g:starEach [a] X.env=[(false,eval a X.env)]:=by rfl):PI X tg (.Call (.Name "range" p) [a] [] b) (Vk c):=by intro pins s σ H R I h;refine Call_ (gS I f hm boot_range (PyProof.Rows.callWith_type1 (bE (ha b pins s σ H _ I h) λus s1 l=>?_) g rfl));obtain⟨vs,m,d,i,q1⟩:=l;obtain⟨j,e,q1,q2,q⟩:=q1;subst e;cases i with|cons r k=>cases k;obtain⟨t,rfl⟩:=r;exact call_range_1 (B0 d (by lia) (by lia) q1 q2 (by simpa using q))
theorem GS{a b:Expr}{g:TA}{p f:Pos}(l:Gl X "range")(hm:X.mg "range"=none)(ha:PA X [a,b] g)(m:starEach [a,b] X.env=[(false,eval a X.env),(false,eval b X.env)]:=by rfl)(d:starEach [b] X.env=[(false,eval b X.env)]:=by rfl):PI X tg (.Call (.Name "range" p) [a,b] [] f) (VA g):=by intro pins s σ H R I h;refine Call_ (gS I l hm boot_range (PyProof.Rows.callWith_type1 (bE (ha f pins s σ H _ I h) λus s1⟨vs,u,k,o,q1⟩=>?_) (by rw[m,d]) (by rw[d];rfl)));obtain⟨i,j,e,⟨q1,q2,q3,q4⟩,q⟩:=q1;subst e;cases o with|cons r c=>cases c with|cons n c=>cases c;obtain⟨t,rfl⟩:=r;obtain⟨t',rfl⟩:=n;exact call_range_2 (B0 k q1 q2 q3 q4 q)
noncomputable def aaQ(e:TI)(g:TG)(tb:TS):TS:=λD σ H=>e σ H λJ c=>∃W:Nat->Nat->St->Hp->Prop,(∃m,W 0 m σ c)/\∀i m σ H,W i m σ H->(J.stop i H/\D.nx σ H)\/(J.go i H/\∃N:St->Hp->Prop,(∀b H',N b H'->∃a,a<m/\W (i+1) a b H')/\∀x H',J.An i H x H'->g x σ H' λf d=>tb {D with nx:=N,ct:=N,bk:=D.nx} f d)
noncomputable def nD(fp:List Addr)(h:Heap):List (Addr×Obj):=fp.filterMap λb=>(h.get? b).map λo=>(b,o)
theorem eD{fp:List Addr}{h:Heap}{b:Addr}{o:Obj}(hb:b∈fp)(e:h.get? b=some o):(b,o)∈nD fp h:=List.mem_filterMap.mpr ⟨b,hb,by rw[e];rfl⟩
theorem Hq{fp:List Addr}{h:Heap}{p:Addr×Obj}(c:p∈nD fp h):p.1∈fp/\h.get? p.1=some p.2:=by obtain⟨b,hb,e⟩:=List.mem_filterMap.mp c;cases q:h.get? b with|none=>rw[q]at e;cases e|some o=>rw[q]at e;have a:(b,o)=p:=Option.some.inj e;subst a;exact⟨hb,q⟩
theorem Inv.pinned{pins:List (Addr×Obj)}{σ:St}{H:Hp}{s:Shared}{fp:List Addr}(I:Inv X pins σ H s)(f:∀b∈fp,lq X pins H b)(ho:∀b∈fp,∃o,s.heap.get? b=some o/\∀v,o.data≠ .cell v):Inv X (pins++nD fp s.heap) σ H s:=I.EK λp g=>(List.mem_append.mp g).elim (λz=>I.pin p (kx _ z)) λz=>by obtain⟨hb,e⟩:=Hq z;obtain⟨c,f1,f2,_⟩:=f p.1 hb;obtain⟨o,a,d⟩:=ho p.1 hb;rw[e]at a;cases a;exact⟨e,c,f1,f2,d⟩
theorem Inv.jz{pins pl:List (Addr×Obj)}{σ:St}{H:Hp}{s:Shared}(I:Inv X (pins++pl) σ H s):Inv X pins σ H s:=I.EK λp a=>I.pin p (kx _ (List.mem_append_left _ a))
theorem dz{iter:Expr}{body:List Stmt}{M:TI}{g:TG}{tb:TS}{pos:Pos}(p:PassesOwn (model X.prog X.w) X.A X.env X.xe)(hc:X.calm=true)(hi:PI X tg iter M)(hg:PG X tg g)(hb:kM X body tb)(hs:∀x,foldedSetIterable iter X.env x=pure x:=by intro _;rfl):PS X (.For tg iter body [] pos) (aaQ M g tb):=by
 intro pins s σ H D I h;refine wpAny_For (bE (hi pins s σ H _ I h) λv s1 h1=>bE h1 λZh s2 h2=>?_) hs;obtain⟨it,fp,tn,J,O,e,Q,T,Sl,f2,W,⟨m0,w0⟩,turn⟩:=h2;subst e;have B:∀{H':Hp},(∀b∈fp,H' b=none)->∀b∈fp,lq X pins H' b:=λhn b hb=>⟨hn b hb,(f2 b hb).2⟩;refine codeAny_forLoop_any (λn s'=>∃i t H',Inv X pins t H' s'/\tn i s'.heap/\(∀b∈fp,H' b=none)/\W i n t H') ?_ m0 ⟨0,σ,O,Q,Sl,λb hb=>(f2 b hb).1,w0⟩;rintro n G⟨i,w,y,E,L,F,w3⟩;rcases turn i n w y w3 with⟨stop,qn⟩|⟨go,N,Z,step⟩;·refine wpAny_passesOwn p (bE (T.done X rfl rfl rfl hc i pins G w y X.xe E (B F) L stop) λr s4 l=>?_);obtain⟨hr,R⟩:=l;subst hr;exact wpAny_execs_nil ⟨w,y,R,qn⟩
 ·refine wpAny_passesOwn p (bE (T.item X rfl rfl rfl hc i pins G w y X.xe E (B F) L go) λr s4 l=>?_);obtain⟨u,hr,h4⟩:=l;subst hr;refine wpAny_passesOwn p (bE h4 λ_ K l=>?_);obtain⟨x,C,S,r5,y5,A,Y⟩:=l;have U:=S.pinned (B Y) (T.obj _ _ A);refine wpAny_passesOwn p (bE (hg _ K w C x u _ U r5 (step x C y5)) λ_ s6 l=>?_);obtain⟨σ6,P,V,q6⟩:=l;refine wpAny_passesOwn p (bE (hb _ s6 σ6 P _ V q6) λf z k=>?_);have again:∀{j:St}{a:Hp},Inv X (pins++nD fp K.heap) j a z->N j a->∃m,m<n/\∃i t H',Inv X pins t H' z/\tn i z.heap/\(∀b∈fp,H' b=none)/\W i m t H':=λ{j a}c q=>by obtain⟨m',hm,w7⟩:=Z j a q;refine⟨m',hm,i+1,j,a,c.jz,T.keep _ _ _ A λb hb o e=>(c.pin (b,o) (kx _ (kx _ (eD hb e)))).1,λb hb=>?_,w7⟩;obtain⟨o,e,d⟩:=T.obj _ _ A b hb;exact(c.pin (b,o) (kx _ (kx _ (eD hb e)))).2.1
  cases f with|next=>obtain⟨j,a,c,q⟩:=k;exact again c q|cont=>obtain⟨j,a,c,q⟩:=k;exact again c q|brk=>obtain⟨j,a,c,k⟩:=k;exact⟨j,a,c.jz,k⟩|ret v=>obtain⟨x7,j,a,c,r7,k⟩:=k;exact⟨x7,j,a,c.jz,r7,k⟩
end
theorem Bq{K:PySem.W.Frag}{a:Addr}{xs:List V}{g:TG}{tb:TS}{D:Ends}{σ:St}{H:Hp}(Pv:Nat->St->Hp->Prop)(h:Pv 0 σ H)(hl:∀i σ H,i<=xs.length->Pv i σ H->aZ K H a xs)(j:∀i x σ H,xs[i]?=some x->Pv i σ H->g x σ H λd b=>tb {D with nx:=Pv (i+1),ct:=Pv (i+1),bk:=D.nx} d b)(hd:∀σ H,Pv xs.length σ H->D.nx σ H):∃W:Nat->Nat->St->Hp->Prop,(∃m,W 0 m σ H)/\∀i m σ H,W i m σ H->((Vx K a).stop i H/\D.nx σ H)\/((Vx K a).go i H/\∃N:St->Hp->Prop,(∀c H',N c H'->∃f,f<m/\W (i+1) f c H')/\∀x H',(Vx K a).An i H x H'->g x σ H' λd b=>tb {D with nx:=N,ct:=N,bk:=D.nx} d b):=by
 refine⟨λi m σ H=>m=xs.length-i/\i<=xs.length/\Pv i σ H,⟨xs.length,by simp,zQ25 _,h⟩,?_⟩;rintro i m σ H⟨rfl,hi,p⟩;have q:=hl i σ H hi p;by_cases hlt:i<xs.length;·refine .inr ⟨⟨xs,xs[i],q,by simp[hlt]⟩,Pv (i+1),λc H' k=>⟨xs.length-(i+1),by lia,rfl,hlt,k⟩,λx H' y=>?_⟩;obtain⟨e,y⟩:=y;subst e;exact j i x σ _ (y xs q) p
 ·have e:i=xs.length:=by lia
  subst e;exact .inl ⟨⟨xs,q,zQ04 _⟩,hd σ H p⟩
theorem Gm{lo:Int}{n:Nat}{g:TG}{tb:TS}{D:Ends}{σ:St}{H:Hp}(Pv:Nat->St->Hp->Prop)(f:Pv 0 σ H)(h:∀i σ H,i<n->Pv i σ H->g (.int (lo+i)) σ H λc a=>tb {D with nx:=Pv (i+1),ct:=Pv (i+1),bk:=D.nx} c a)(hd:∀σ H,Pv n σ H->D.nx σ H):∃W:Nat->Nat->St->Hp->Prop,(∃m,W 0 m σ H)/\∀i m σ H,W i m σ H->((R4 lo n).stop i H/\D.nx σ H)\/((R4 lo n).go i H/\∃N:St->Hp->Prop,(∀b H',N b H'->∃d,d<m/\W (i+1) d b H')/\∀x H',(R4 lo n).An i H x H'->g x σ H' λc a=>tb {D with nx:=N,ct:=N,bk:=D.nx} c a):=by
 refine⟨λi m σ H=>m=n-i/\i<=n/\Pv i σ H,⟨n,by simp,zQ25 _,f⟩,?_⟩;rintro i m σ H⟨rfl,hi,p⟩;by_cases hlt:i<n;·refine .inr ⟨hlt,Pv (i+1),λb H' j=>⟨n-(i+1),by lia,rfl,hlt,j⟩,λx H' y=>?_⟩;obtain⟨e,y⟩:=y;subst e y;exact h i σ _ hlt p
 ·have e:i=n:=by lia
  subst e;exact .inl ⟨zQ04 _,hd σ H p⟩
noncomputable abbrev R2:=V->V->Hp->VK->Prop
noncomputable def jH(X:Cx)(f:Value->Value->Sem Value)(r:R2):Prop:=∀(pins:List (Addr×Obj))(s:Shared)(σ:St)(H:Hp)(x y:V)(v u:Value)(Q:VK),Inv X pins σ H s->RelV x v->RelV y u->r x y H Q->wpAny (model X.prog X.w) X.A (f v u) (EP X pins σ Q) X.xe s
noncomputable def UnR(X:Cx)(f:Value->Sem Value)(r:V->Hp->VK->Prop):Prop:=∀(pins:List (Addr×Obj))(s:Shared)(σ:St)(H:Hp)(x:V)(v:Value)(Q:VK),Inv X pins σ H s->RelV x v->r x H Q->wpAny (model X.prog X.w) X.A (f v) (EP X pins σ Q) X.xe s
noncomputable def gm(X:Cx)(f:Value)(r:List V->Hp->VK->Prop):Prop:=∀(pins:List (Addr×Obj))(s:Shared)(σ:St)(H:Hp)(xs:List V)(us:List Value)(Q:VK),Inv X pins σ H s->Vals xs us->r xs H Q->wpAny (model X.prog X.w) X.A (call f us) (EP X pins σ Q) X.xe s
noncomputable def Rw(r:R2)(c tb:TE):TE:=λσ H Q=>c σ H λx a=>tb σ a λy b=>r x y b Q
noncomputable def tUn(r:V->Hp->VK->Prop)(b:TE):TE:=λσ H Q=>b σ H λx a=>r x a Q
noncomputable def rI(C:Int->Int->Prop)(g:Int->Int->V):R2:=λx y H Q=>∃i j,x= .int i/\y= .int j/\C i j/\Q (g i j) H
noncomputable def PX(g:Int->Int->V):R2:=λx y H Q=>∃i j,x= .int i/\y= .int j/\Q (g i j) H
noncomputable def rU(g:Int->V):V->Hp->VK->Prop:=λx H Q=>∃i,x= .int i/\Q (g i) H
section
variable{X:Cx}{a b c:Expr}{ta tb tc:TE}{pos:Pos}
theorem QV(ha:PE X a ta)(hb:PE X b tb){pins:List (Addr×Obj)}{s:Shared}{σ:St}{H:Hp}{R:V->V->Hp->Prop}(I:Inv X pins σ H s)(h:ta σ H λx e=>tb σ e λy d=>R x y d){Q:Value->Shared->Prop}{f:Value->Value->Sem Value}(k:∀v u s2 x y d,Inv X pins σ d s2->RelV x v->RelV y u->R x y d->wpAny (model X.prog X.w) X.A (f v u) Q X.xe s2):wpAny (model X.prog X.w) X.A (eval a X.env) (λv s₁=>wpAny (model X.prog X.w) X.A (eval b X.env) (λu s₂=>wpAny (model X.prog X.w) X.A (f v u) Q X.xe s₂) X.xe s₁) X.xe s:=by refine bE (ha pins s σ H _ I h) λv s1 g=>?_;obtain⟨x,e,i,l,q1⟩:=g;refine bE (hb pins s1 σ e _ i q1) λu s2 g=>?_;obtain⟨y,d,j,m,q2⟩:=g;exact k v u s2 x y d j l m q2
theorem aN{op:Operator}{r:R2}(ho:jH X (binaryOp op) r)(ha:PE X a ta)(hb:PE X b tb):PE X (.BinOp a op b pos) (Rw r ta tb):=by intro pins s σ H Q I h;exact wpAny_BinOp (QV ha hb I h λv u s2 x y d e f g q=>ho pins s2 σ d x y v u Q e f g q)
theorem rJ{op:UnaryOp}{r:V->Hp->VK->Prop}(ho:UnR X (unaryOp op) r)(ha:PE X a ta):PE X (.UnaryOp op a pos) (tUn r ta):=by intro pins s σ H Q I h;exact UnaryOp_ (bE (ha pins s σ H _ I h) λv s1⟨x,d,e,f,q1⟩=>ho pins s1 σ d x v Q e f q1)
theorem opI{f:Value->Value->Sem Value}{C:Int->Int->Prop}{g:Int->Int->Int}(rule:∀(i j:Int)(t u:Tok)(s:Shared)(Q:Value->Shared->Prop)(E:Value->Shared->Prop),C i j->Q (.int (g i j) s.toks) {s with toks:=s.toks+1}->wpAny (model X.prog X.w) X.A (f (.int i t) (.int j u)) Q E s):jH X f (rI C λi j=> .int (g i j)):=by intro pins s σ H x y v u Q I d e h;obtain⟨i,j,rfl,rfl,hc,q⟩:=h;obtain⟨t,rfl⟩:=d;obtain⟨t',rfl⟩:=e;exact rule i j t t' s _ _ hc ⟨.int (g i j),H,I.tok _,⟨_,rfl⟩,q⟩
theorem V9{f:Value->Value->Sem Value}{g:Int->Int->Int}(rule:∀(i j:Int)(t u:Tok)(s:Shared)(Q:Value->Shared->Prop)(E:Value->Shared->Prop),Q (.int (g i j) s.toks) {s with toks:=s.toks+1}->wpAny (model X.prog X.w) X.A (f (.int i t) (.int j u)) Q E s):jH X f (PX λi j=> .int (g i j)):=by intro pins s σ H x y v u Q I d e h;obtain⟨i,j,rfl,rfl,q⟩:=h;obtain⟨t,rfl⟩:=d;obtain⟨t',rfl⟩:=e;exact rule i j t t' s _ _ ⟨.int (g i j),H,I.tok _,⟨_,rfl⟩,q⟩
theorem Mt{f:Value->Value->Sem Value}{g:Int->Int->Bool}(rule:∀(i j:Int)(t u:Tok)(s:Shared)(Q:Value->Shared->Prop)(E:Value->Shared->Prop),Q (.bool (g i j)) s->wpAny (model X.prog X.w) X.A (f (.int i t) (.int j u)) Q E s):jH X f (PX λi j=> .bl (g i j)):=by intro pins s σ H x y v u Q I d e h;obtain⟨i,j,rfl,rfl,q⟩:=h;obtain⟨t,rfl⟩:=d;obtain⟨t',rfl⟩:=e;exact rule i j t t' s _ _ ⟨.bl (g i j),H,I,rfl,q⟩
def WQ(i j:Int):Prop:=0<j/\j<1073741824
theorem dN:jH X (binaryOp .Add) (PX λi j=> .int (i+j)):=V9 λ_ _ _ _ _ _ _ q=>add_int q
theorem iP:jH X (binaryOp .Sub) (PX λi j=> .int (i-j)):=V9 λ_ _ _ _ _ _ _ q=>sub_int q
theorem dn:jH X (binaryOp .FloorDiv) (rI WQ λi j=> .int (i/j)):=opI λi j _ _ _ _ _ hc q=>by have h1:(0:Int)<j:=hc.1;have h2:j<1073741824:=hc.2;exact floordiv_int (by lia) (by rw[Int.fdiv_eq_ediv_of_nonneg i (by lia)];exact q) (.inl (PyProof.noPylong_small (by lia)))
theorem cB:jH X (binaryOp .Mod) (rI (λ_ j=>0<j) λi j=> .int (i%j)):=opI λi j _ _ _ _ _ hc q=>by have h1:(0:Int)<j:=hc;exact mod_int' (by lia) (by rw[Int.fmod_eq_emod_of_nonneg i (by lia)];exact q)
theorem unI{f:Value->Sem Value}{g:Int->Int}(rule:∀(i:Int)(t:Tok)(s:Shared)(Q:Value->Shared->Prop)(E:Value->Shared->Prop),Q (.int (g i) s.toks) {s with toks:=s.toks+1}->wpAny (model X.prog X.w) X.A (f (.int i t)) Q E s):UnR X f (rU λi=> .int (g i)):=by intro pins s σ H x v Q I d h;obtain⟨i,rfl,q⟩:=h;obtain⟨t,rfl⟩:=d;exact rule i t s _ _ ⟨.int (g i),H,I.tok _,⟨_,rfl⟩,q⟩
theorem kf:UnR X (unaryOp .USub) (rU λi=> .int (-i)):=unI λ_ _ _ _ _ q=>neg_int q
end
noncomputable def Te:V->V->Bool| .bA, .bA=>true| .bA, .int _=>true| .int _, .bA=>true| .bA, .bl _=>true| .bl _, .bA=>true| .bA, .str _=>true| .str _, .bA=>true| .int _, .int _=>true| .bl _, .bl _=>true| .str _, .str _=>true| .Gx _, .Gx _=>true| .int _, .str _=>true| .str _, .int _=>true| .bl _, .str _=>true| .str _, .bl _=>true|_,_=>false
noncomputable def rEq:R2:=λx y H Q=>Te x y=true/\Q (.bl (decide (x=y))) H
noncomputable def rNe:R2:=λx y H Q=>Te x y=true/\Q (.bl (!decide (x=y))) H
theorem Fn{i j:Int}:decide (V.int i=V.int j)=(i==j):=by rw[Bool.eq_iff_iff];simp
theorem Il{i j:Bool}:decide (V.bl i=V.bl j)=(i==j):=by rw[Bool.eq_iff_iff];simp
theorem Ge{i j:Str}:decide (V.str i=V.str j)=(i==j):=by rw[Bool.eq_iff_iff];simp
theorem Em{i j:Array UInt8}:decide (V.Gx i=V.Gx j)=(i.toList==j.toList):=by rw[Bool.eq_iff_iff];cases i;cases j;simp
section
variable{X:Cx}{a b c:Expr}{ta tb tc:TE}{pos:Pos}
theorem bf{pins:List (Addr×Obj)}{σ:St}{H:Hp}{s:Shared}{Q:VK}{k d:Bool}(I:Inv X pins σ H s)(q:Q (.bl k) H)(e:k=d):EP X pins σ Q (.bool d) s:=by subst e;exact⟨.bl k,H,I,rfl,q⟩
theorem aY:jH X (compareOp .Eq) rEq:=by
 intro pins s σ H x y v u Q I f d h;obtain⟨e,q⟩:=h;cases x with
  |bA=>cases f;cases y with|bA=>cases d;exact PySem.EqNone.eq_none_none (bf I q (by simp))|bl j=>cases d;exact PySem.EqNone.eq_none_bool (bf I q (by simp))|int j=>obtain⟨t',rfl⟩:=d;exact PySem.EqNone.eq_none_int (bf I q (by simp))|str j=>obtain⟨t',rfl⟩:=d;exact PySem.EqNone.eq_none_str (bf I q (by simp))|_=>exact absurd (show false=true from e) eE
  |bl i=>cases f;cases y with|bA=>cases d;exact PySem.EqNone.eq_bool_none (bf I q (by simp))|bl j=>cases d;exact eq_bool (bf I q Il)|str j=>obtain⟨t',rfl⟩:=d;exact PySem.EqMixed.eq_bool_str (bf I q (by simp))|_=>exact absurd (show false=true from e) eE
  |int i=>obtain⟨t,rfl⟩:=f;cases y with|bA=>cases d;exact PySem.EqNone.eq_int_none (bf I q (by simp))|int j=>obtain⟨t',rfl⟩:=d;exact eq_int (bf I q Fn)|str j=>obtain⟨t',rfl⟩:=d;exact PySem.EqMixed.eq_int_str (bf I q (by simp))|_=>exact absurd (show false=true from e) eE
  |str i=>obtain⟨t,rfl⟩:=f;cases y with|bA=>cases d;exact PySem.EqNone.eq_str_none (bf I q (by simp))|bl j=>cases d;exact PySem.EqMixed.eq_str_bool (bf I q (by simp))|int j=>obtain⟨t',rfl⟩:=d;exact PySem.EqMixed.eq_str_int (bf I q (by simp))|str j=>obtain⟨t',rfl⟩:=d;exact eq_str (bf I q Ge)|_=>exact absurd (show false=true from e) eE
  |Gx i=>obtain⟨t,rfl⟩:=f;cases y with|Gx j=>obtain⟨t',rfl⟩:=d;exact PySem.W.eq_bytes (bf I q Em)|_=>exact absurd (show false=true from e) eE
  |_=>cases y<;>exact absurd (show false=true from e) eE
theorem PZ:jH X (compareOp .NotEq) rNe:=by
 intro pins s σ H x y v u Q I f d h;obtain⟨e,q⟩:=h;cases x with
  |bA=>cases f;cases y with|bA=>cases d;exact PySem.EqNone.ne_none_none (bf I q (by simp))|bl j=>cases d;exact PySem.EqNone.ne_none_bool (bf I q (by simp))|int j=>obtain⟨t',rfl⟩:=d;exact PySem.EqNone.ne_none_int (bf I q (by simp))|str j=>obtain⟨t',rfl⟩:=d;exact PySem.EqNone.ne_none_str (bf I q (by simp))|_=>exact absurd (show false=true from e) eE
  |bl i=>cases f;cases y with|bA=>cases d;exact PySem.EqNone.ne_bool_none (bf I q (by simp))|bl j=>cases d;exact ne_bool (bf I q (congrArg not Il))|str j=>obtain⟨t',rfl⟩:=d;exact PySem.EqMixed.ne_bool_str (bf I q (by simp))|_=>exact absurd (show false=true from e) eE
  |int i=>obtain⟨t,rfl⟩:=f;cases y with|bA=>cases d;exact PySem.EqNone.ne_int_none (bf I q (by simp))|int j=>obtain⟨t',rfl⟩:=d;exact ne_int (bf I q (congrArg not Fn))|str j=>obtain⟨t',rfl⟩:=d;exact PySem.EqMixed.ne_int_str (bf I q (by simp))|_=>exact absurd (show false=true from e) eE
  |str i=>obtain⟨t,rfl⟩:=f;cases y with|bA=>cases d;exact PySem.EqNone.ne_str_none (bf I q (by simp))|bl j=>cases d;exact PySem.EqMixed.ne_str_bool (bf I q (by simp))|int j=>obtain⟨t',rfl⟩:=d;exact PySem.EqMixed.ne_str_int (bf I q (by simp))|str j=>obtain⟨t',rfl⟩:=d;exact ne_str (bf I q (congrArg not Ge))|_=>exact absurd (show false=true from e) eE
  |Gx i=>obtain⟨t,rfl⟩:=f;cases y with|Gx j=>obtain⟨t',rfl⟩:=d;exact PySem.W.ne_bytes (bf I q (congrArg not Em))|_=>exact absurd (show false=true from e) eE
  |_=>cases y<;>exact absurd (show false=true from e) eE
theorem BJ:jH X (compareOp .Lt) (PX λi j=> .bl (decide (i<j))):=Mt λ_ _ _ _ _ _ _ q=>lt_int q
theorem E5:jH X (compareOp .LtE) (PX λi j=> .bl (decide (i<=j))):=Mt λ_ _ _ _ _ _ _ q=>le_int q
theorem nZ:jH X (compareOp .Gt) (PX λi j=> .bl (decide (j<i))):=Mt λ_ _ _ _ _ _ _ q=>gt_int q
theorem N5:jH X (compareOp .GtE) (PX λi j=> .bl (decide (j<=i))):=Mt λ_ _ _ _ _ _ _ q=>ge_int q
theorem vz:jH X (compareOp .In) (λx y H Q=>∃i j,x= .str i/\y= .str j/\Q (.bl (!(Builtin.Str.occurrences j i 0 j.length 1).isEmpty)) H):=by intro pins s σ H x y v u Q I d e h;obtain⟨i,j,rfl,rfl,q⟩:=h;obtain⟨t,rfl⟩:=d;obtain⟨t',rfl⟩:=e;exact in_str (bf I q rfl)
theorem QQ:jH X (compareOp .Is) (λx y H Q=>y= .bA/\Q (.bl (decide (x= .bA))) H):=by intro pins s σ H x y v u Q I d e h;obtain⟨rfl,q⟩:=h;cases e;refine is_none_gen (bf I q ?_);cases x<;>first|(cases d;rfl)|(obtain⟨t,rfl⟩:=d;rfl)
theorem E3:jH X (compareOp .IsNot) (λx y H Q=>y= .bA/\Q (.bl (!decide (x= .bA))) H):=by intro pins s σ H x y v u Q I d e h;obtain⟨rfl,q⟩:=h;cases e;refine isnot_none_gen (bf I q ?_);cases x<;>first|(cases d;rfl)|(obtain⟨t,rfl⟩:=d;rfl)
theorem az(b:Expr){op:CmpOp}(h:op≠ .In:=by decide)(h2:op≠ .NotIn:=by decide):behindInMarks op b=false:=by
 have d:(op==CmpOp.In)=false:=by cases op<;>first|rfl|exact absurd rfl h
 have e:(op==CmpOp.NotIn)=false:=by cases op<;>first|rfl|exact absurd rfl h2
 cases b<;>simp[behindInMarks,d,e]
theorem cG{op:CmpOp}{r:R2}(ho:jH X (compareOp op) r)(ha:PE X a ta)(hb:PE X b tb)(hm:behindInMarks op b=false):PE X (.Compare a [op] [b] pos) (Rw r ta tb):=by intro pins s σ H Q I h;exact wpAny_Compare1 (QV ha hb I h λv u s2 x y d e f g q=>ho pins s2 σ d x y v u Q e f g q) hm
noncomputable def Oo(t:TE):TT:=λσ H Q=>t σ H λx H'=>∃k,x= .bl k/\Q k H'
theorem aw{op:CmpOp}{r:R2}(ho:jH X (compareOp op) r)(ha:PE X a ta)(hb:PE X b tb)(hm:behindInMarks op b=false):PT X (.Compare a [op] [b] pos) (Oo (Rw r ta tb)):=by intro pins s σ H Q I h;refine wpAny_isTrue_Compare1 (bE (ha pins s σ H _ I h) λv s1⟨x,d,i,m,q1⟩=>bE (hb pins s1 σ d _ i q1) λu s2⟨y,f,j,n,q2⟩=>bE (ho pins s2 σ f x y v u _ j m n q2) λc p⟨z,g,l,o,k,e,q3⟩=>?_) hm;subst e;cases o;exact wpAny_truthy_bool ⟨g,l,q3⟩
noncomputable def R9(r h:R2)(ta tb tc:TE):TE:=λσ H Q=>ta σ H λx e=>tb σ e λy f=>r x y f λz d=>∃k,z= .bl k/\(if k=true then tc σ d λi g=>h y i g Q else Q (.bl false) d)
theorem JM{op f:CmpOp}{r j:R2}(ho:jH X (compareOp op) r)(D:jH X (compareOp f) j)(ha:PE X a ta)(hb:PE X b tb)(hc:PE X c tc)(hm:lastMarks [op,f] [b,c]=false:=by with_unfolding_all rfl):PT X (.Compare a [op,f] [b,c] pos) (Oo (R9 r j ta tb tc)):=by intro pins s σ H Q I h;refine isTrue_chain (bE (ha pins s σ H _ I h) λv s1⟨x,m,q,G,q1⟩=>test_link (bE (hb pins s1 σ m _ q q1) λu s2⟨y,n,t,l,q2⟩=>bE (ho pins s2 σ n x y v u _ t G l q2) λd M⟨z,g,i,J,k,e,q3⟩=>?_)) hm;subst e;cases J;refine wpAny_truthy_bool ?_;cases k with|false=>obtain⟨S,B,E⟩:=q3;cases B;exact ite_ff ⟨g,i,E⟩|true=>refine ite_tt (test_last (bE (hc pins M σ g _ i q3) λO N⟨P,o,w,K,q4⟩=>bE (D pins N σ o y P u O _ w l K q4) λd' U R=>?_));obtain⟨V,p,A,L,T,C,F⟩:=R;subst C;cases L;exact wpAny_truthy_bool ⟨p,A,F⟩
theorem m8:(sizeLine:Nat)<2^63:=by rw[sizeLine_eq];decide
theorem eK:jH X (binaryOp .Add) (λx y H Q=>∃i j,x= .str i/\y= .str j/\i.length+j.length<=sizeLine/\Q (.str (i++j)) H):=by intro pins s σ H x y v u Q I e f h;obtain⟨i,j,rfl,rfl,d,q⟩:=h;obtain⟨t,rfl⟩:=e;obtain⟨t',rfl⟩:=f;exact add_str (λt' tk=>⟨.str (i++j),H,I.tok _,⟨_,rfl⟩,q⟩) d
theorem vals1{x:V}{us:List Value}(r:Vals [x] us):∃u,us=[u]/\RelV x u:=by cases r with|cons d e=>cases e;exact⟨_,rfl,d⟩
theorem uZ:gm X (.type "int") (λxs H Q=>(∃i,xs=[.int i]/\Q (.int i) H)\/∃k,xs=[.bl k]/\Q (.int (if k then 1 else 0)) H):=by
 intro pins s σ H xs us Q I r h;rcases h with⟨i,rfl,q⟩|⟨k,rfl,q⟩;·obtain⟨u,rfl,t,rfl⟩:=vals1 r;exact call_int_int ⟨.int i,H,I,⟨_,rfl⟩,q⟩
 ·obtain⟨u,rfl,d⟩:=vals1 r;cases d;exact call_int_bool ⟨.int (if k then 1 else 0),H,I.tok _,⟨_,rfl⟩,q⟩
end
structure De(h:Heap)(x dx C:Addr)(mA:Str->Option Value):Prop where
 obj:h.get? x=some (PySem.W.instObj C dx)
 ns:h.Ns1 dx mA
 ne:dx≠x
theorem Hk{h:Heap}{dx:Addr}{mA:Str->Option Value}(n:h.Ns1 dx mA):∃od,h.get? dx=some od/\∀name,PySem.W.lookIn name od=some (mA name):=by
 obtain⟨o,es,ep,ho,hd,c,_,hm⟩:=n;refine⟨o,ho,λname=>?_⟩;have e:=hm name;unfold nsFind findBy at e;rw[<-Array.find?_toList]at e;unfold PySem.W.lookIn;rw[hd];dsimp only;split;·rename_i y q;rw[q]at e;exact congrArg some e
 ·rename_i q;rw[q]at e;have a:es.toList.any (·.refKey)=false:=by rw[List.any_eq_false];intro y f;obtain⟨z,t,d⟩:=c y (Array.mem_toList_iff.mp f);simp[DictEntry.refKey,d]
  have b:¬es.toList.any (·.refKey)=true:=by rw[a];exact eE
  rw[if_neg b];exact congrArg some e
theorem De.look{h:Heap}{x dx C:Addr}{mA:Str->Option Value}(I:De h x dx C mA):∃od,PySem.W.InstAt h x (PySem.W.instObj C dx) C (some od)/\∀name,PySem.W.lookIn name od=some (mA name):=let⟨od,ho,hl⟩:=Hk I.ns;⟨od,⟨I.obj,rfl,rfl,ho⟩,hl⟩
section
variable{prog:Program}{w:World}{A:Around}{E:Value->Shared->Prop}{s:Shared}{K:PySem.W.Frag}{x dx C f:Addr}{mA:Str->Option Value}{name:Str}{v:Value}
theorem get_map{expr:Bool}{Q:Value->Shared->Prop}(X:K.In s.heap)(I:De s.heap x dx C mA)(a:PySem.W.plainGet K C name=true)(hh:PySem.W.hasDictIn K C=true)(ha:PySem.W.findIn K (.ref C) name=some none)(hv:mA name=some v)(b:PySem.W.handedIn v=true)(h:Q v {s with toks:=s.toks+1}):wpAny (model prog w) A (getAttr (.ref x) name expr) Q E s:=by obtain⟨od,J,hl⟩:=I.look;exact PySem.W.get_value X J (PySem.W.plainGet_of a).1 (PySem.W.findObj_own hh ha rfl (by rw[hl,hv])) b h
theorem Jg{pl:Sem Bool}{Q:Value×List Value->Shared->Prop}(X:K.In s.heap)(I:De s.heap x dx C mA)(a:PySem.W.plainGet K C name=true)(b:PySem.W.findIn K (.ref C) name=some (some (.ref f)))(ht:PySem.W.isFn K (.ref f)=true)(hv:mA name=none)(h:Q (.ref f,[.ref x]) s):wpAny (model prog w) A (getMethod (.ref x) name pl) Q E s:=by obtain⟨od,J,hl⟩:=I.look;exact PySem.W.method_fn X J (PySem.W.plainGet_of a).1 (PySem.W.plainGet_of a).2 b (beq_iff_eq.mp ht) (by show(PySem.W.lookIn name od).map (·.isSome)=some false;rw[hl,hv];rfl) h
theorem M6{ns:List Str}{Q:Unit->Shared->Prop}(X:K.In s.heap)(I:De s.heap x dx C mA)(l:PySem.W.findIn K (.ref C) "__setattr__"=some (some (.builtin "object.__setattr__")))(k:PySem.W.plainOver K C=true)(ht:PySem.W.takerIn K C name=some none)(hh:PySem.W.hasDictIn K C=true)(hw:PySem.Within mA ns)(hsz:ns.length<=sizeLine)(h:∀h',De h' x dx C (λy=>if y=name then some v else mA y)->Heap.SameBut dx s.heap h'->Q () {s with heap:=h',toks:=s.toks+2}):wpAny (model prog w) A (setAttr (.ref x) name v) Q E s:=by obtain⟨od,J,hl⟩:=I.look;refine PySem.W.set_plain X J l (PySem.W.osa_open (s:={s with toks:=s.toks+1}) (r:=none) X J k ht λb=>?_);obtain⟨cd,hc,g⟩:=PySem.W.any_some hh;have m:s.heap.get? x=some ⟨.ref C,some dx, .plain,#[]⟩:=I.obj;refine zQ00 (zQ02 (zQ00 (zQ00 (wpAny_loadPart m (zQ00 (PySem.W.Looks.here (s:={s with toks:=s.toks+1}) (PySem.W.looks_clsIn X hc) ?_))))));rw[g];refine zQ02 (a:=some dx) (zQ00 (zQ02 (zQ00 ?_)));refine wpAny_nsSet1 (s:={s with toks:=s.toks+1}) I.ns λh' c d=>?_;obtain⟨p,o,n,j,i,e⟩:=c.count (PySem.Within.cons name v hw);refine zQ00 (wpAny_lookBehind j (by rw[i];exact pastItsLine_dict (cw e (by rw[b_];lia))) ?_);exact zQ02 (h _ ⟨(d.2 _ (Ne.symm I.ne)).trans I.obj,c,I.ne⟩ d)
theorem KC{R:Result->Shared->Prop}{vs:List Value}{a:List (Str×Value)}(X:K.In s.heap)(hm:PySem.W.makesIn K C=true)(hi:PySem.W.findIn K (.ref C) "__init__"=some (some (.ref f)))(b:PySem.W.typeIn K (.ref f)=some (.type "function"))(h:codeAny (model prog w) (A.under (.builtin "type.__call__" ⟨.ref C::vs,a⟩)) (.call (.ref f) ⟨.ref (s.heap.objs.size+1)::vs,a⟩) (PySem.W.InitBack (s.heap.objs.size+1) R) {s with heap:=(s.heap.push PySem.W.emptyDict).push (PySem.W.instObj C s.heap.objs.size)}):codeAny (model prog w) A (.call (.ref C) ⟨vs,a⟩) R s:=by obtain⟨hh,g,d,t,os⟩:=s;exact PySem.W.make_core (PySem.W.makes_of X hm) (PySem.W.looks_findIn X hi) (λself=>PySem.W.bind_fn X self b) (.inl rfl) h
end
noncomputable def jQ(f:Str)(v:V):List (Str×V)->List (Str×V)|[]=>[(f,v)]|(g,x)::r=>if g=f then(g,v)::r else(g,x)::jQ f v r
theorem oM(f g:Str)(v:V):∀fs:List (Str×V),(jQ f v fs).lookup g=if g=f then some v else fs.lookup g
 |[]=>by
  show List.lookup g [(f,v)]=_;by_cases h:g=f;·have hb:(g==f)=true:=beq_iff_eq.mpr h;simp only[List.lookup,hb,if_pos h]
  ·have hb:(g==f)=false:=beq_eq_false_iff_ne.mpr h;simp only[List.lookup,hb,if_neg h]
 |(k,x)::r=>by
  have b:=oM f g v r;rw[show jQ f v ((k,x)::r)=(if k=f then(k,v)::r else(k,x)::jQ f v r)from rfl];by_cases a:k=f
  ·rw[if_pos a];by_cases h:g=k;·have hb:(g==k)=true:=beq_iff_eq.mpr h;simp only[List.lookup,hb,if_pos (h.trans a)]
   ·have hb:(g==k)=false:=beq_eq_false_iff_ne.mpr h;simp only[List.lookup,hb,if_neg (λe:g=f=>h (e.trans a.symm))]
  ·rw[if_neg a];by_cases h:g=k;·have hb:(g==k)=true:=beq_iff_eq.mpr h;simp only[List.lookup,hb,if_neg (λe:g=f=>a (h.symm.trans e))]
   ·have hb:(g==k)=false:=beq_eq_false_iff_ne.mpr h;simp only[List.lookup,hb];exact b
theorem nJ(f:Str)(v:V):∀fs:List (Str×V),f∈(jQ f v fs).map (·.1)/\∀g,g∈fs.map (·.1)->g∈(jQ f v fs).map (·.1)
 |[]=>⟨by simp[jQ],λg h=>by simp at h⟩
 |(k,x)::r=>by
  obtain⟨i1,i2⟩:=nJ f v r;rw[show jQ f v ((k,x)::r)=(if k=f then(k,v)::r else(k,x)::jQ f v r)from rfl];by_cases a:k=f;·rw[if_pos a];subst a;exact⟨by simp,λg h=>by simpa using h⟩
  ·rw[if_neg a];refine⟨?_,λg h=>?_⟩;·rw[cD];exact ck _ i1
   ·rw[cD]at h⊢;rcases List.mem_cons.mp h with e|e;·exact List.mem_cons.mpr (.inl e)
    ·exact ck _ (i2 g e)
theorem n5(f:Str)(v:V):∀fs:List (Str×V),(jQ f v fs).length<=fs.length+1
 |[]=>by simp[jQ]
 |(k,x)::r=>by
  have b:=n5 f v r;rw[show jQ f v ((k,x)::r)=(if k=f then(k,v)::r else(k,x)::jQ f v r)from rfl];by_cases a:k=f;·rw[if_pos a,b_,b_];lia
  ·rw[if_neg a,b_,b_];lia
theorem mU.some_of{v:V}{o:Option Value}(r:mU (some v) o):∃u,o=some u/\RelV v u:=by cases o with|none=>exact(show False from r).elim|some u=>exact⟨u,rfl,r⟩
theorem mU.none_of{o:Option Value}(r:mU none o):o=none:=by cases o with|none=>rfl|some u=>exact(show False from r).elim
theorem Gi{v:V}{u:Value}(r:RelV v u):PySem.W.handedIn u=true:=by cases v with|bA=>cases(show u=Value.none from r);rfl|bl b=>cases(show u=Value.bool b from r);rfl|int i=>obtain⟨t,e⟩:=(show∃t,u=Value.int i t from r);cases e;rfl|str x=>obtain⟨t,e⟩:=(show∃t,u=Value.str x t from r);cases e;rfl|Gx b=>obtain⟨t,e⟩:=(show∃t,u=Value.bytes b t from r);cases e;rfl|PQ b=>obtain⟨t,e⟩:=(show∃t,u=Value.float b t from r);cases e;rfl|ref a=>cases(show u=Value.ref a from r);rfl|ty n=>cases(show u=Value.type n from r);rfl
section
variable{P:Program}{w:World}{H H':Hp}{h h':Heap}{a C dx:Addr}{fs fs':List (Str×V)}
theorem qu(bT:iZ P w H h)(e:H a=some (.ins C dx fs)):∃mA,De h a dx C mA/\(∀f,mU (fs.lookup f) (mA f))/\PySem.Within mA (fs.map (·.1))/\fs.length<=1000/\H dx=some (.own a):=by obtain⟨d,z,ne,ob,mA,n,r,q⟩:=(show bV P w H h a (.ins C dx fs)from bT a _ e);exact⟨mA,⟨ob,n,ne⟩,r,q,z,d⟩
end
structure JY(K:PySem.W.Frag)(C:Addr):Prop where
 pg:PySem.W.plainGet K C Str.empty=true
 hd:PySem.W.hasDictIn K C=true
 po:PySem.W.plainOver K C=true
 sa:PySem.W.findIn K (.ref C) "__setattr__"=some (some (.builtin "object.__setattr__"))
theorem JY.get{K:PySem.W.Frag}{C:Addr}(c:JY K C)(f:Str):PySem.W.plainGet K C f=true:=c.pg
def gQ(K:PySem.W.Frag)(C:Addr)(f:Str):Prop:=PySem.W.findIn K (.ref C) f=some none
theorem gQ.U5{K:PySem.W.Frag}{C:Addr}{f:Str}(n:gQ K C f):PySem.W.takerIn K C f=some none:=by unfold PySem.W.takerIn;rw[show PySem.W.findIn K (.ref C) f=some none from n];rfl
structure Con(K:PySem.W.Frag)(C:Addr)(f:Str)(v:V)(u:Value):Prop where
 at_:PySem.W.findIn K (.ref C) f=some (some u)
 rel:RelV v u
 get:PySem.W.specialIn K u "__get__"=some none
 cp:PySem.W.copiedNames.contains f=false
structure Meth(K:PySem.W.Frag)(C:Addr)(m:Str)(f:Addr):Prop where
 at_:PySem.W.findIn K (.ref C) m=some (some (.ref f))
 fn:PySem.W.isFn K (.ref f)=true
 kp:PySem.W.keepIn K (.ref f)=true
section
variable{X:Cx}{pins:List (Addr×Obj)}{σ:St}{H:Hp}{s:Shared}{a C dx:Addr}{fs:List (Str×V)}{f:Str}{v:V}{A:Around}{E:Value->Shared->Prop}
theorem DT{b:Bool}{Q:Value->Shared->Prop}(I:Inv X pins σ H s)(e:H a=some (.ins C dx fs))(c:JY X.K C)(n:gQ X.K C f)(l:fs.lookup f=some v)(h:∀u s',Inv X pins σ H s'->RelV v u->Q u s'):wpAny (model X.prog X.w) A (getAttr (.ref a) f b) Q E s:=by obtain⟨mA,O,r,_,_,_⟩:=qu I.bT e;obtain⟨u,g,d⟩:=mU.some_of (v:=v) (o:=mA f) (by rw[<-l];exact r f);exact get_map I.jl O (c.get f) c.hd n g (Gi d) (h u _ (I.tok _) d)
theorem sO{m:Str}{g:Addr}{pl:Sem Bool}{Q:Value×List Value->Shared->Prop}(I:Inv X pins σ H s)(e:H a=some (.ins C dx fs))(c:JY X.K C)(k:Meth X.K C m g)(l:fs.lookup m=none)(h:Q (.ref g,[.ref a]) s):wpAny (model X.prog X.w) A (getMethod (.ref a) m pl) Q E s:=by obtain⟨mA,O,r,_,_,_⟩:=qu I.bT e;have hn:mA m=none:=mU.none_of (by rw[<-l];exact r m);exact Jg I.jl O (c.get m) k.at_ k.fn hn h
theorem DI{y:V}{u:Value}{Q:Unit->Shared->Prop}(I:Inv X pins σ H s)(e:H a=some (.ins C dx fs))(c:JY X.K C)(n:gQ X.K C f)(hl:fs.length<1000)(m:RelV y u)(h:∀s',Inv X pins σ (upd H a (.ins C dx (jQ f y fs))) s'->Q () s'):wpAny (model X.prog X.w) A (setAttr (.ref a) f u) Q E s:=by
 obtain⟨mA,O,r,i,_,ho⟩:=qu I.bT e;have l:(fs.map (·.1)).length<=sizeLine:=by rw[bD,sizeLine_eq];lia
 refine M6 I.jl O c.sa c.po n.U5 c.hd i l λh' d sb=>h _ ?_;have hd:∃o,h'.get? dx=some o:=let⟨o,_,_,j,_⟩:=d.ns;⟨o,j⟩;refine I.write (x:=a) (e:=dx) (by rw[e];exact True.intro) (.inr ho) (λb q hb z=>(sb.2 b hb).trans z) hd ?_;refine⟨by rw[aP O.ne];exact ho,?_,O.ne,d.obj,_,d.ns,λg=>?_,λg k=>?_⟩;·have :=n5 f y fs;lia
 ·show mU ((jQ f y fs).lookup g) (if g=f then some u else mA g);rw[oM];by_cases q:g=f;·rw[if_pos q,if_pos q];exact m
  ·rw[if_neg q,if_neg q];exact r g
 ·by_cases q:g=f;·rw[q];exact(nJ f y fs).1
  ·refine(nJ f y fs).2 g (i g λz=>k ?_);show(if g=f then some u else mA g)=none;rw[if_neg q];exact z
theorem Inv.made(I:Inv X pins σ H s):Inv X pins σ (upd (upd H s.heap.objs.size (.own (s.heap.objs.size+1))) (s.heap.objs.size+1) (.ins C s.heap.objs.size [])) {s with heap:=(s.heap.push PySem.W.emptyDict).push (PySem.W.instObj C s.heap.objs.size)}:=by
 have c:(s.heap.push PySem.W.emptyDict).get? s.heap.objs.size=some PySem.W.emptyDict:=zQ12 s.heap rfl;have g:((s.heap.push PySem.W.emptyDict).push (PySem.W.instObj C s.heap.objs.size)).get? (s.heap.objs.size+1)=some (PySem.W.instObj C s.heap.objs.size):=by have :=zQ12 (s.heap.push PySem.W.emptyDict) (o:=PySem.W.instObj C s.heap.objs.size) rfl;rwa[zQ27]at this
 have h:(s.heap.push PySem.W.emptyDict).Ns s.heap.objs.size (λ_=>none):=⟨PySem.W.emptyDict,#[],_,c,rfl,(λe he=>absurd he (by simp)),λ_=>rfl⟩;have d:=I.laid (a:=s.heap.objs.size) (o:= .own (s.heap.objs.size+1)) (h':=s.heap.push PySem.W.emptyDict) (t':=s.toks) (λb u q=>zQ01 _ q) (zQ04 _) ⟨_,c⟩;refine d.laid (a:=s.heap.objs.size+1) (o:= .ins C s.heap.objs.size []) (t':=s.toks) (λb u q=>zQ01 _ q) (Nat.le_of_eq (zQ27 _ _)) ?_;have ne:s.heap.objs.size≠s.heap.objs.size+1:=zQ18 (Nat.lt_succ_self _);refine⟨by rw[aP ne,ah],zQ25 _,ne,g,λ_=>none,(Heap.Ns1.of_empty h).at λo q=>zQ01 _ q,λ_=>True.intro,λy i=>absurd rfl i⟩
theorem NQ{prog:Program}{w:World}{env:Env}{e:Expr}{f:Str}{b:Pos}{s:Shared}{Q:Value->Shared->Prop}(hb:attributeBase e f env (eval e env)=eval e env)(h:wpAny (model prog w) A (eval e env) (λo s₁=>wpAny (model prog w) A (getAttr o f true) Q E s₁) E s):wpAny (model prog w) A (eval (.Attribute e f b) env) Q E s:=Attribute_any_ h (by rw[arm_eval_Attribute,hb])
end
noncomputable def aaW(K:PySem.W.Frag)(c:TE)(f:Str):TE:=λσ H Q=>c σ H λx b=>∃a C dx fs v,x= .ref a/\b a=some (.ins C dx fs)/\JY K C/\gQ K C f/\fs.lookup f=some v/\Q v b
noncomputable def ZI(K:PySem.W.Frag)(d e:TE)(f:Str):TS:=λD σ H=>e σ H λy c=>d σ c λx b=>∃a C dx fs,x= .ref a/\b a=some (.ins C dx fs)/\JY K C/\gQ K C f/\fs.length<1000/\D.nx σ (upd b a (.ins C dx (jQ f y fs)))
section
variable{X:Cx}{o e value:Expr}{f:Str}{pos pos' QX:Pos}{ta tv:TE}
theorem eL(he:PE X e ta)(hb:attributeBase e f X.env (eval e X.env)=eval e X.env):PE X (.Attribute e f pos) (aaW X.K ta f):=by intro pins s σ H Q I h;refine NQ hb (bE (he pins s σ H _ I h) λu s1 m=>?_);obtain⟨x,b,d,k,a,C,dx,fs,v,ex,i,c,n,l,q⟩:=m;subst ex;obtain rfl:u=Value.ref a:=k;exact DT d i c n l λp s2 g j=>⟨v,b,g,j,q⟩
theorem wJ(ha:PE X o ta)(hv:PE X value tv)(k:swapsWith value (some (.Attribute o f pos')) pos.line X.env=pure false):PS X (.Assign [.Attribute o f pos'] value pos) (ZI X.K ta tv f):=by intro pins s σ H D I h;refine plainObj_wpAny_Assign_Attribute (bE (hv pins s σ H _ I h) λu s1⟨y,b,d,r,q⟩=>bE (ha pins s1 σ b _ d q) λm s2 t=>?_) k;obtain⟨x,v,g,p,a,C,dx,fs,ex,j,c,n,l,q2⟩:=t;subst ex;obtain rfl:m=Value.ref a:=p;exact DI g j c n l r λw i=>⟨σ,_,i,q2⟩
end
section
variable{X:Cx}{pins:List (Addr×Obj)}{σ:St}{H:Hp}{s:Shared}{A:Around}{E:Value->Shared->Prop}{Q:Value->Shared->Prop}{c:Value}{b:Bool}
inductive kg(K:PySem.W.Frag)(H:Hp):V->Value->Prop where|bA:kg K H .bA (.type "NoneType")|bl(x:Bool):kg K H (.bl x) (.type "bool")|int(i:Int):kg K H (.int i) (.type "int")|str(x:Str):kg K H (.str x) (.type "str")|PQ(x:UInt64):kg K H (.PQ x) (.type "float")|lst{a:Addr}{xs:List V}(e:H a=some (.lst xs)):kg K H (.ref a) (.type "list")|DM{a:Addr}{o:Obj}{xs:List V}(e:H a=some (.DM o (.lst xs))):kg K H (.ref a) (.type "list")|tup{a:Addr}{xs:List V}(e:H a=some (.tup xs)):kg K H (.ref a) (.type "tuple")|dK{a:Addr}{kvs:List (Key×V)}(e:H a=some (.dK kvs)):kg K H (.ref a) (.type "dict")|dT{a:Addr}{kvs:List (List Key×V)}(e:H a=some (.dT kvs)):kg K H (.ref a) (.type "dict")|ins{a C dx:Addr}{fs:List (Str×V)}(e:H a=some (.ins C dx fs))(cl:JY K C)(ha:PySem.W.findIn K (.ref C) "__class__"=some (some (.builtin "object.__class__")))(hn:PySem.W.specialIn K (.builtin "object.__class__") "__get__"=some (some (.builtin "getset_descriptor.__get__")))(htk:PySem.W.takesIn K (.builtin "object.__class__")=some true)(hm:PySem.W.mroIn K C (.type "object")=some true):kg K H (.ref a) (.ref C)
theorem G8{x:V}{u t:Value}(I:Inv X pins σ H s)(f:RelV x u)(ty:kg X.K H x t)(e:PySem.W.kitOne X.K t c=some b)(h:∀tk,Q (.bool b) {s with toks:=tk}):wpAny (model X.prog X.w) A (call (.builtin "isinstance") [u,c]) Q E s:=by cases ty with|bA=>cases(show u=Value.none from f);exact PySem.W.kia_one PySem.W.kitx_none I.jl True.intro e (λz=>nomatch z) h|bl y=>cases(show u=Value.bool y from f);exact PySem.W.kia_one PySem.W.kitx_bool I.jl True.intro e (λz=>nomatch z) h|int i=>obtain⟨t,q⟩:=(show∃t,u=Value.int i t from f);cases q;exact PySem.W.kia_one PySem.W.kitx_int I.jl True.intro e (λz=>nomatch z) h|str y=>obtain⟨t,q⟩:=(show∃t,u=Value.str y t from f);cases q;exact PySem.W.kia_one PySem.W.kitx_str I.jl True.intro e (λz=>nomatch z) h|PQ y=>obtain⟨t,q⟩:=(show∃t,u=Value.float y t from f);cases q;exact PySem.W.kia_one PySem.W.kitx_float I.jl True.intro e (λz=>nomatch z) h|@lst a xs d=>cases(show u=Value.ref a from f);obtain⟨_,_,n,_,h1⟩:=(show bV X.prog X.w H s.heap a (.lst xs)from I.bT a _ d);exact PySem.W.kia_one PySem.W.kitx_list I.jl ⟨_,h1,rfl⟩ e (λz=>nomatch z) h|@DM a ob xs d=>cases(show u=Value.ref a from f);obtain⟨_,_,_,n,_,h1⟩:=(show bV X.prog X.w H s.heap a (.DM ob (.lst xs))from I.bT a _ d);exact PySem.W.kia_one PySem.W.kitx_list I.jl ⟨_,h1,rfl⟩ e (λz=>nomatch z) h|@tup a xs d=>cases(show u=Value.ref a from f);obtain⟨_,_,_,p⟩:=(show bV X.prog X.w H s.heap a (.tup xs)from I.bT a _ d);obtain⟨o,h1,h2,_⟩:=p;exact PySem.W.kia_one PySem.W.kitx_tuple I.jl ⟨o,h1,h2⟩ e (λz=>nomatch z) h|@dK a kvs d=>cases(show u=Value.ref a from f);obtain⟨_,_,vs,_,p⟩:=(show bV X.prog X.w H s.heap a (.dK kvs)from I.bT a _ d);obtain⟨o,es,ep,h1,h2,_⟩:=p;exact PySem.W.kia_one PySem.W.kitx_dict I.jl ⟨o,h1,h2.1⟩ e (λz=>nomatch z) h|@dT a kvs d=>cases(show u=Value.ref a from f);obtain⟨_,_,xs,_,o,es,ep,h1,h2,_⟩:=(show bV X.prog X.w H s.heap a (.dT kvs)from I.bT a _ d);exact PySem.W.kia_one PySem.W.kitx_dict I.jl ⟨o,h1,h2.1⟩ e (λz=>nomatch z) h|@ins a C dx fs d cl ha hn htk hm=>cases(show u=Value.ref a from f);obtain⟨mA,O,_⟩:=qu I.bT d;obtain⟨od,J,_⟩:=O.look;exact PySem.W.kia_one (PySem.W.kitx_own (cl.get _) cl.hd ha hn htk hm) I.jl J e (λz=>nomatch z) h
end
structure cR(k:Nat)(A:Around):Prop where
 dp:A.depth+3*k+5<recursionLimit
 un:A.units+16*k+200<cLine
 hd:130<=k->A.handled=none
theorem cR.mono{j k:Nat}{A:Around}(r:cR k A)(h:j<=k):cR j A:=⟨by have :=r.dp;lia,by have :=r.un;lia,λz=>r.hd (by lia)⟩
theorem cR.deeper{k:Nat}{A:Around}(r:cR (k+1) A)(env:Env):cR k (A.deeper env):=⟨by have :=r.dp;show A.depth+1+3*k+5<_;lia,by have :=r.un;show A.units+3+16*k+200<_;lia,λz=>r.hd (by lia)⟩
theorem C9{A:Around}{C:Addr}{us:List Value}{a:List (Str×Value)}:(A.under (.builtin "type.__call__" ⟨.ref C::us,a⟩)).depth=A.depth+1:=by first|rfl|simp[Around.under,Code.weight,Code.isCreation,Code.isGuard,Code.isCaller,Code.frames,Code.isFrame,guardIds]
theorem DD{A:Around}{C:Addr}{us:List Value}{a:List (Str×Value)}:(A.under (.builtin "type.__call__" ⟨.ref C::us,a⟩)).units=A.units+1:=by first|rfl|simp[Around.under,Code.cUnits,Code.frames,Code.isFrame]
theorem cR.make{k:Nat}{A:Around}(r:cR (k+1) A)(C:Addr)(us:List Value)(a:List (Str×Value)):cR k (A.under (.builtin "type.__call__" ⟨.ref C::us,a⟩)):=⟨by have :=r.dp;rw[C9];lia,by have :=r.un;rw[DD];lia,λz=>r.hd (by lia)⟩
theorem cR.depth{k:Nat}{A:Around}(r:cR k A):A.depth<recursionLimit:=by have :=r.dp;lia
theorem cR.units{k:Nat}{A:Around}(r:cR k A):A.units+64<cLine:=by have :=r.un;lia
noncomputable def nE:TA:=λ_ H Q=>Q [] H
noncomputable def dv(c:TE)(d:TA):TA:=λσ H Q=>c σ H λx a=>d σ a λxs b=>Q (x::xs) b
section
variable{X:Cx}{e:Expr}{es:List Expr}{te:TE}{t:TA}{pos:Pos}
theorem af:PA X [] nE:=λ_ _ _ _ H Q I h=>Calls.spliced_nil ⟨[],H,I, .nil,h⟩
theorem aa(ha:PE X e te)(hr:PA X es t)(f:starEach (e::es) X.env=(false,eval e X.env)::starEach es X.env:=by rfl):PA X (e::es) (dv te t):=by intro pos pins s σ H Q I h;rw[f];show wpAny _ _ (spliced ((false,eval e X.env)::backTo pos (starEach es X.env))) _ _ s;refine Calls.spliced_cons (bE (ha pins s σ H _ I h) λu s1 j=>?_);obtain⟨x,a,c,g,q1⟩:=j;exact bE (hr pos pins s1 σ a _ c q1) λus s2⟨xs,b,d,i,q2⟩=>⟨x::xs,b,d, .cons g i,q2⟩
noncomputable def DV(t:TA):TE:=λσ H Q=>t σ H λxs a=>xs.length<=sizeLine/\∀p,a p=none->Q (.ref p) (upd a p (.tup xs))
noncomputable def Ws(t:TA):TE:=λσ H Q=>t σ H λxs a=>xs.length<=sizeLine/\∀p,a p=none->Q (.ref p) (upd a p (.lst xs))
theorem bp{f}(h:PA X es t):PE X (.Tuple es f pos) (DV t):=by intro pins s σ H Q I hq;refine wpAny_Tuple_spliced (bE (h pos pins s σ H _ I hq) λus s1⟨xs,a,c,r,z,q⟩=>⟨by rw[<-r.length];exact z,?_⟩);have d:a s1.heap.objs.size=none:=c.bT.fresh (zQ04 _);refine⟨.ref s1.heap.objs.size,upd a s1.heap.objs.size (.tup xs),c.laid (t':=s1.toks) (λb u e=>zQ01 _ e) (zQ04 _) ?_,rfl,q _ d⟩;exact⟨z,us,r,⟨_,zQ12 _ rfl,rfl,_,rfl⟩⟩
theorem bX(h:PA X es t):PE X (.List es pos) (Ws t):=by intro pins s σ H Q I hq;refine wpAny_List_spliced (bE (h pos pins s σ H _ I hq) λus s1⟨xs,a,c,r,z,q⟩=>⟨by rw[<-r.length];exact z,?_⟩);have d:a s1.heap.objs.size=none:=c.bT.fresh (zQ04 _);refine⟨.ref s1.heap.objs.size,upd a s1.heap.objs.size (.lst xs),c.laid (t':=s1.toks) (λb u e=>zQ01 _ e) (zQ04 _) ?_,rfl,q _ d⟩;exact⟨z,us,0,r,zQ12 _ rfl⟩
end
noncomputable abbrev Sp:=List V->Hp->VK->XK->Prop
noncomputable abbrev qm:=Option Value->List Env->Hp->Shared->XK->Value->Shared->Prop
structure Ck(P:Program)(w:World)(K:PySem.W.Frag)(mg:Str->Option Value)(base:Heap)(A:Around)(outer:List Env)(s:Shared)(H:Hp):Prop where
 frames:A.frames=some outer
 mod:Mod K mg base
 bs:∀b o,base.get? b=some o->s.heap.get? b=some o/\H b=none
 HJ:base.objs.size<=s.heap.objs.size
 pb:s.heap.FunFrames base outer
 Rk:∀b∈kJ outer,H b=none
 bT:iZ P w H s.heap
 bare:AllBare s.gens
 hdl:HB base A
noncomputable def CE(outer:List Env)(P:Program)(w:World)(H:Hp)(s:Shared)(Q:VK)(u:Value)(s':Shared):Prop:=∃v H',s'.os=s.os/\AllBare s'.gens/\Un (kJ outer) [] H H' s.heap s'.heap/\iZ P w H' s'.heap/\RelV v u/\Q v H'
noncomputable def CR(CX:qm)(hh:Option Value)(outer:List Env)(P:Program)(w:World)(H:Hp)(s:Shared)(Q:VK)(E:XK)(r:Result)(s':Shared):Prop:=match r with| .ok (.ret u)=>CE outer P w H s Q u s'| .ok _=>False| .error e=>CX hh outer H s E e s'
structure pB(P:Program)(w:World)(K:PySem.W.Frag)(mg:Str->Option Value)(base:Heap)(CX:qm)(k:Nat)(f:Addr)(fd:FuncData)(ps:List Str)(sp:Sp):Prop where
 len:∀vs H Q E,sp vs H Q E->vs.length=ps.length
 run:∀(A:Around)(outer:List Env)(s:Shared)(H:Hp)(args:Args)(us:List Value)(vs:List V)(Q:VK)(E:XK),cR k A->Ck P w K mg base A outer s H->BindsTo s fd args (ps.zip us)->Vals vs us->sp vs H Q E->codeAny (model P w) A (.call (.ref f) args) (CR CX A.handled outer P w H s Q E) s
theorem Ck.make{P:Program}{w:World}{K:PySem.W.Frag}{mg:Str->Option Value}{base:Heap}{A:Around}{outer:List Env}{s:Shared}{H:Hp}(e:Ck P w K mg base A outer s H)(C:Addr)(us:List Value)(a:List (Str×Value)):Ck P w K mg base (A.under (.builtin "type.__call__" ⟨.ref C::us,a⟩)) outer s H:=⟨by first|exact e.frames|(simpa[Around.under,Code.envs,Code.isFrame,pushEnvs]using e.frames),e.mod,e.bs,e.HJ,e.pb,e.Rk,e.bT,e.bare,e.hdl⟩
section
variable{X:Cx}{pins:List (Addr×Obj)}{σ:St}{H:Hp}{s s':Shared}
theorem Inv.after{Q:VK}{u:Value}(I:Inv X pins σ H s)(h:CE X.stack X.prog X.w H s Q u s'):EP X pins σ Q u s':=by obtain⟨v,H',os,bare,un,bT,r,q⟩:=h;obtain⟨hh,g,d,t,os'⟩:=s';obtain rfl:os'=s.os:=os;exact⟨v,H',I.call (h':=hh) (g':=g) (d':=d) (t':=t) (ch:=[]) un bT bare (λb z=>absurd z (by simp)),r,q⟩
end
noncomputable def Eo(sp:Sp)(b:List V)(E:XK)(t:TA):TE:=λσ H Q=>t σ H λvs a=>sp (vs++b) a Q E
noncomputable def Ob(C:Addr)(m:Str)(sp:Sp)(d:List V)(E:XK)(e:TE)(t:TA):TE:=λσ H Q=>e σ H λx b=>∃a dx fs,x= .ref a/\b a=some (.ins C dx fs)/\fs.lookup m=none/\t σ b λvs c=>sp (x::(vs++d)) c Q E
noncomputable def Vl(C:Addr)(sp:Sp)(c:List V)(E:XK)(t:TA):TE:=λσ H Q=>t σ H λvs a=>∀x dx,a x=none->a dx=none->dx≠x->sp (.ref x::(vs++c)) (upd (upd a dx (.own x)) x (.ins C dx [])) (λv b=>v= .bA/\Q (.ref x) b) E
noncomputable def Binds(K:PySem.W.Frag)(fd:FuncData)(ps:List Str)(ds:List Value):Prop:=∀(s:Shared)(us:List Value),K.In s.heap->(us++ds).length=ps.length->BindsTo s fd ⟨us,[]⟩ (ps.zip (us++ds))
theorem Binds.all{K:PySem.W.Frag}{fd:FuncData}{ps:List Str}(h:∀us:List Value,us.length=ps.length->bindArgs fd ⟨us,[]⟩=pure (ps.zip us)):Binds K fd ps []:=λs us _ hl=>by rw[eF]at hl⊢;exact .of_eq (h us hl)
def Passes(CX:qm)(X:Cx)(E:XK):Prop:=∀(pins:List (Addr×Obj))(σ:St)(H:Hp)(s:Shared)(e:Value)(s':Shared),Inv X pins σ H s->CX X.A.handled X.stack H s E e s'->X.xe e s'
section
variable{X:Cx}{CX:qm}{k:Nat}{f C:Addr}{fd:FuncData}{ps:List Str}{sp:Sp}{Ue:List V}{ds:List Value}{E:XK}{x m:Str}{p pos apos:Pos}{e o:Expr}{es:List Expr}{ta:TE}{t:TA}
end
noncomputable def PK(X:Cx)(a:List Keyword)(t:TA):Prop:=∀(b:Pos)(pins:List (Addr×Obj))(s:Shared)(σ:St)(H:Hp)(Q:List V->Hp->Prop),Inv X pins σ H s->t σ H Q->wpAny (model X.prog X.w) X.A (evalAll ((backToKw b (keywordEach a X.env)).map (·.2))) (AP X pins σ Q) X.xe s
section
variable{X:Cx}{CX:qm}{k:Nat}{f C:Addr}{fd:FuncData}{ps ks:List Str}{sp:Sp}{E:XK}{x m:Str}{p pos apos aap:Pos}{e o:Expr}{es:List Expr}{Vm:List Keyword}{te ta:TE}{t tk:TA}{nm:Option Str}
theorem Ij:PK X [] nE:=λ_ _ _ _ H Q I h=>wpAny_evalAll_nil ⟨[],H,I, .nil,h⟩
theorem Fb(ha:PE X e te)(hr:PK X Vm t):PK X (⟨nm,e,aap⟩::Vm) (dv te t):=by intro pos pins s σ H Q I h;show wpAny _ _ (evalAll ((do let v<-eval e X.env;standAt pos;pure v)::(backToKw pos (keywordEach Vm X.env)).map (·.2))) _ _ s;refine wpAny_evalAll_cons (zQ00 (bE (ha pins s σ H _ I h) λu s1⟨x,a,c,g,q1⟩=>zQ00 (wpAny_standAt (zQ02 ?_))));exact bE (hr pos pins s1 σ a _ c q1) λus s2⟨xs,b,d,i,q2⟩=>⟨x::xs,b,d, .cons g i,q2⟩
end
structure aG(N P:List Str)(sc:Scope):Prop where
 kind:sc.kind= .function
 co:sc.isCoroutine=false
 gen:sc.isGenerator=false
 nd:N.Nodup
 pre:N.take P.length=P
 par:∀x∈P,sc.names.lookup x=some .local\/sc.names.lookup x=some .cell
 Rc:∀y∈sc.names,y.2≠ .free
theorem vp{kindOf:Str->Option NameKind}{x:Str}:∀{binds:List (Str×Value)}{m:Str->Option Value},(∀v,(x,v)∉binds)->bindL kindOf binds m x=m x
 |[],_,_=>rfl
 |(n,v)::r,m,h=>by
  unfold bindL;rw[vp λw hw=>h w (ck _ hw)];split
  ·have :x≠n:=by rintro rfl;exact h v bI
   simp[this]
  ·rfl
theorem uL{kindOf:Str->Option NameKind}{x:Str}:∀{binds:List (Str×Value)}{m:Str->Option Value},(∀v,(x,v)∉binds)->bindC kindOf binds m x=m x
 |[],_,_=>rfl
 |(n,v)::r,m,h=>by
  unfold bindC;rw[uL λw hw=>h w (ck _ hw)];split;·rfl
  ·have :x≠n:=by rintro rfl;exact h v bI
   simp[this]
theorem ve{kindOf:Str->Option NameKind}{x:Str}{v:Value}:∀{P:List Str}{vs:List Value}{i:Nat}{m:Str->Option Value},P.Nodup->P[i]?=some x->vs[i]?=some v->kindOf x=some .local->bindL kindOf (P.zip vs) m x=some v|[],_,_,_,_,h,_,_=>by simp at h|_::_,[],_,_,_,_,h,_=>by simp at h|p::P,w::vs,0,m,nd,h1,h2,a=>by simp at h1 h2;subst h1;subst h2;show bindL kindOf ((p,w)::P.zip vs) m p=_;unfold bindL;rw[vp λv hv=>(List.nodup_cons.mp nd).1 (List.of_mem_zip hv).1,if_pos a];simp|p::P,w::vs,i+1,m,nd,h1,h2,a=>by show bindL kindOf ((p,w)::P.zip vs) m x=_;unfold bindL;exact ve (i:=i) (List.nodup_cons.mp nd).2 (by simpa using h1) (by simpa using h2) a
theorem uQ{kindOf:Str->Option NameKind}{x:Str}{v:Value}:∀{P:List Str}{vs:List Value}{i:Nat}{m:Str->Option Value},P.Nodup->P[i]?=some x->vs[i]?=some v->kindOf x≠some .local->bindC kindOf (P.zip vs) m x=some v|[],_,_,_,_,h,_,_=>by simp at h|_::_,[],_,_,_,_,h,_=>by simp at h|p::P,w::vs,0,m,nd,h1,h2,a=>by simp at h1 h2;subst h1;subst h2;show bindC kindOf ((p,w)::P.zip vs) m p=_;unfold bindC;rw[uL λv hv=>(List.nodup_cons.mp nd).1 (List.of_mem_zip hv).1,if_neg a];simp|p::P,w::vs,i+1,m,nd,h1,h2,a=>by show bindC kindOf ((p,w)::P.zip vs) m x=_;unfold bindC;exact uQ (i:=i) (List.nodup_cons.mp nd).2 (by simpa using h1) (by simpa using h2) a
noncomputable def start(N:List Str)(vs:List V):St:=vs.map some++List.replicate (N.length-vs.length) none
noncomputable def dX(CX:qm)(P:Program)(w:World)(K:PySem.W.Frag)(mg:Str->Option Value)(base:Heap)(N:List Str)(qual:Str)(scope:Scope)(f:Addr)(cd:Value)(A:Around)(outer:List Env)(s:Shared)(H:Hp)(E:XK):Cx where prog:=P;w:=w;K:=K;mg:=mg;base:=base;A:=A.deeper (envOfC qual scope s.heap.objs.size f cd);N:=N;bQ:=s;H₀:=H;env:=envOfC qual scope s.heap.objs.size f cd;outer:=outer;stack:=envOfC qual scope s.heap.objs.size f cd::outer;ex:=[];calm:=true;fn:=λ_=>true;pn:=[];xe:=λe s'=>wpAny (model P w) (A.deeper (envOfC qual scope s.heap.objs.size f cd)) (leaving (envOfC qual scope s.heap.objs.size f cd) e) (λ_ a=>CX A.handled outer H s E e a) (λb a=>CX A.handled outer H s E b a) s'
theorem Au{sc:Scope}{n:Nat}{x:Str}(h:sc.names.lookup x=some .cell):∃c,(cellsFrom n sc.names []).lookup x=some c:=by have q:=PySem.W.cellsFrom_some sc.names n [] (.inl h);exact Option.isSome_iff_exists.mp q
theorem uO{CX:qm}{P:Program}{w:World}{K:PySem.W.Frag}{mg:Str->Option Value}{base:Heap}{N ps:List Str}{qual:Str}{scope:Scope}{f:Addr}{cd:Value}{A:Around}{outer:List Env}{s s1:Shared}{H:Hp}{E:XK}{us:List Value}{vs:List V}(S:aG N ps scope)(d:Ck P w K mg base A outer s H)(hl:vs.length=ps.length)(r:Vals vs us)(x:InCallC s s.heap.objs.size (bindL (envOfC qual scope s.heap.objs.size f cd).kindOf (ps.zip us) λ_=>none) (cellsFrom (s.heap.objs.size+1) scope.names []) (bindC (envOfC qual scope s.heap.objs.size f cd).kindOf (ps.zip us) λ_=>none) s1):Inv (dX CX P w K mg base N qual scope f cd A outer s H E) [] (start N vs) H s1:=by
 have C:ps.length<=N.length:=by have :=congrArg List.length S.pre;rw[jx]at this;lia
 obtain⟨h1,tk,rfl,m⟩:=x.done;have l:∀b:Addr,b∉(dX CX P w K mg base N qual scope f cd A outer s H E).ex:=λb z=>absurd (show b∈([]:List Addr)from z) (by simp);refine⟨⟨d.mod,S.kind,rfl,rfl,zQ04 _,λy z c h1 h2=>?_,λy g=>?_,λy c _ h=>?_,λ_=>d.hdl.toP,Around.frames_deeper d.frames, .inr ⟨rfl,rfl⟩,λb z=>absurd z (l b),d.bs,d.HJ,λb _ _=>l b,λb z=>absurd z (l b),d.pb,d.Rk⟩,rfl,d.bare,Un.kept m,⟨_,x.toInCall.ns,λi y v h1 h2 h3=>?_⟩,λy c h=>⟨_,x.cell y c h⟩,d.bT.fresh (zQ04 _),λy c h=>?_,λp j=>absurd (show p∈([]:List (Addr×Obj))from j) (by simp),d.bT.kept m,?_⟩;·exact name_of_addr x.apart (PySem.mem_of_lookup h1) (PySem.mem_of_lookup h2)
 ·have g:scope.names.lookup y=some .cell\/scope.names.lookup y=some .free:=g;rcases g with g|g;·exact Au g
  ·exact absurd rfl (S.Rc _ (PySem.mem_of_lookup g))
 ·exact Nat.le_of_lt (x.above y c (PySem.mem_of_lookup h))
 ·have hi:i<vs.length:=by
   unfold start at h2;by_cases hi:i<vs.length;·exact hi
   ·rw[List.getElem?_append_right (by simpa using hi)]at h2;rw[List.getElem?_replicate]at h2;split at h2<;>cases h2
  have ha:vs[i]?=some v:=by unfold start at h2;rw[List.getElem?_append_left (by simpa using hi),gs]at h2;cases e:vs[i]? with|none=>rw[e]at h2;cases h2|some a=>rw[e]at h2;cases h2;rfl
  obtain⟨u,o,B⟩:=r.get ha;have j:ps[i]?=some y:=by rw[<-S.pre,List.getElem?_take_of_lt (by lia)];exact h1
  have t:ps.Nodup:=by rw[<-S.pre];exact S.nd.sublist (List.take_sublist _ _)
  refine⟨u,B,?_⟩;rcases S.par y (m_ j)with k|k;·exact .inl ⟨k,ve t j o k⟩
  ·obtain⟨c,e⟩:=Au (n:=s.heap.objs.size+1) k;refine .inr ⟨.inl k,c,e,?_⟩;have q:=x.cell y c e;rw[uQ t j o (by show scope.names.lookup y≠_;rw[k];decide)]at q;exact q
 ·exact d.bT.fresh (Nat.le_of_lt (x.above y c (PySem.mem_of_lookup h)))
 ·unfold start;show _=N.length;rw[cS,bD,List.length_replicate];lia
theorem J7{CX:qm}{P:Program}{w:World}{K:PySem.W.Frag}{mg:Str->Option Value}{base:Heap}{k:Nat}{f:Addr}{name qual:Str}{params:Arguments}{body:List Stmt}{scope:Scope}{h kV doc pm bS ct oc:Value}{an od:Option Addr}{HI:Array (Option Value)}{N ps:List Str}{sp:Sp}(B:K.lookup f=some ⟨oc,od, .func (PySem.W.fnOf name qual params body scope h kV doc pm an bS ct),HI⟩)(l:PySem.W.codeIn K bS qual=true)(S:aG N ps scope)(len:∀vs H Q E,sp vs H Q E->vs.length=ps.length)(j:∀(A:Around)(outer:List Env)(s:Shared)(H:Hp)(vs:List V)(Q:VK)(E:XK),cR k (A.deeper (envOfC qual scope s.heap.objs.size f bS))->sp vs H Q E->∃t,kM (dX CX P w K mg base N qual scope f bS A outer s H E) body t/\t {nx:=λ_ H'=>Q .bA H',rt:=Q} (start N vs) H):pB P w K mg base CX (k+1) f (PySem.W.fnOf name qual params body scope h kV doc pm an bS ct) ps sp:=by
 refine⟨len,λA outer s H args us vs Q E hr c hb r i=>?_⟩;have hl:=len _ _ _ _ i;have KX:K.In s.heap:=c.mod.Ez.keeps λb o e=>(c.bs b o e).1;have z:s.heap.NoLimit:=c.mod.nolimit.keeps λb o e=>(c.bs b o e).1;have m:∀y∈ps.zip us,scope.names.lookup y.1=some .local\/(scope.names.lookup y.1=some .cell/\((cellsFrom (s.heap.objs.size+1) scope.names []).lookup y.1).isSome=true):=λ⟨n,v⟩p=>by
  rcases S.par n (List.of_mem_zip p).1 with q|q;·exact .inl q
  ·exact .inr ⟨q,PySem.W.cellsFrom_some _ _ _ (.inl q)⟩
 refine codeAny_call_function hr.depth (KX _ _ B) rfl S.co S.gen rfl (PySem.W.codeRec_of KX l) (hb _ _ _ _ ?_);refine wpAny_newFunctionEnv_cells S.kind m λenv he s1 x=>?_;subst he;refine⟨z.keeps x.toInCall.keep,codeAny_func ?_⟩;obtain⟨t,ht,hq⟩:=j A outer s H vs Q E (hr.deeper _) i;have I:Inv (dX CX P w K mg base N qual scope f bS A outer s H E) [] (start N vs) H s1:=uO S c hl r x;refine wpAny_mono (ht [] s1 (start N vs) H _ I hq) (λfl s' a=>?_) λe s' a=>a;have fin:∀{d:St}{H':Hp}{v:V}{u:Value},Inv (dX CX P w K mg base N qual scope f bS A outer s H E) [] d H' s'->RelV v u->Q v H'->CE outer P w H s Q u s':=λ{d H' v u}J g q=>⟨v,H',J.os,J.bare,J.base,J.bT,g,q⟩;cases fl with|ret u=>obtain⟨v,d,H',J,g,q⟩:=a;exact fin J g q|next=>obtain⟨d,H',J,q⟩:=a;exact fin (v:=V.bA) (u:=Value.none) J rfl q|brk=>obtain⟨_,_,_,q⟩:=a;exact False.elim q|cont=>obtain⟨_,_,_,q⟩:=a;exact False.elim q
section
variable{X:Cx}{x:Str}{p pos:Pos}{e:Expr}{es:List Expr}{t:TA}{id T:String}{r:List V->Hp->VK->Prop}
noncomputable def tCB(r:List V->Hp->VK->Prop)(t:TA):TE:=λσ H Q=>t σ H λvs a=>r vs a Q
theorem aJ(hc:gm X (.builtin id) r)(d:Gl X x)(hm:X.mg x=none)(hv:bootBuiltins x=some (.builtin id))(ha:PA X (e::es) t)(hn:x≠"__name__":=by decide)(c:(x==("__debug__":Str))=false:=by decide)(he:starEach (e::es) X.env=(false,eval e X.env)::starEach es X.env:=by rfl)(f:(backTo pos (starEach es X.env)).any (·.1)=false:=by rfl):PE X (.Call (.Name x p) (e::es) [] pos) (tCB r t):=by intro pins s σ H Q I h;refine wpAny_Call_Name_kw (gS I d hm hv ?_ hn c);exact PyProof.Rows.callWith_builtin1 (bE (ha pos pins s σ H _ I h) λus s1⟨vs,a,b,g,q1⟩=>hc pins s1 σ a vs us Q b g q1) he f
theorem bY(hc:gm X (.type T) r)(d:Gl X x)(hm:X.mg x=none)(hv:bootBuiltins x=some (.type T))(ha:PA X (e::es) t)(hn:x≠"__name__":=by decide)(c:(x==("__debug__":Str))=false:=by decide)(he:starEach (e::es) X.env=(false,eval e X.env)::starEach es X.env:=by rfl)(f:(backTo pos (starEach es X.env)).any (·.1)=false:=by rfl):PE X (.Call (.Name x p) (e::es) [] pos) (tCB r t):=by intro pins s σ H Q I h;refine wpAny_Call_Name_kw (gS I d hm hv ?_ hn c);exact PyProof.Rows.callWith_type1 (bE (ha pos pins s σ H _ I h) λus s1⟨vs,a,b,g,q1⟩=>hc pins s1 σ a vs us Q b g q1) he f
end
end L2
end
section
namespace HT
open PySem PyProof.Rows
section
open PySem.SeqAt
open PySem.AutoSeq1(wpAny_loadPart')
open PySem.MeetsSeq PySem.MeetsSeq2 PySem.MeetsSeq3
end
section
variable{prog:Program}{w:World}{A:Around}{E:Value->Shared->Prop}{s:Shared}
theorem LU{t b:Addr}{vs ws:List Value}{Q:Value->Shared->Prop}(ht:IsTup s.heap t vs.toArray)(hb:IsTup s.heap b ws.toArray)(hv:vs≠[])(h1:ws=[]->Q (.ref t) s)(h2:ws≠[]->Q (.ref s.heap.objs.size) {s with heap:=s.heap.push {cls:= .type "tuple",data:= .seq (vs++ws).toArray}})(hsz:vs.length+ws.length<=sizeLine):wpAny (model prog w) A (binaryOp .Add (.ref t) (.ref b)) Q E s:=by
 obtain⟨⟨cls,dd,data,sl⟩,ho,hc,n,hd⟩:=id ht;obtain⟨⟨i,c,data2,h⟩,a,d,g,f⟩:=id hb;simp only at hc hd d f;subst hc hd d f;have e:vs.toArray++ws.toArray=(vs++ws).toArray:=by simp
 by_cases hw:ws=[];·exact concat_meets ⟨_,ho,rfl⟩ ⟨_,a,rfl⟩ noFill_tuple_add seq_tuple_add PySem.F.slot_tuple_add PySem.F.entry_tuple_add (PySem.F.args_tuple_add_2 _ _) (tuple_addW1 t b vs.toArray ws.toArray n g dd c sl h (by simpa using hv) (by simp[hw])) ⟨ho,a,h1 hw⟩
 ·refine concat_meets ⟨_,ho,rfl⟩ ⟨_,a,rfl⟩ noFill_tuple_add seq_tuple_add PySem.F.slot_tuple_add PySem.F.entry_tuple_add (PySem.F.args_tuple_add_2 _ _) (tuple_addW2 t b vs.toArray ws.toArray n g dd c sl h (by simpa using hv) (by simpa using hw) (by rw[cC,cC];exact hsz)) ⟨ho,a,?_⟩;rw[e];exact h2 hw
noncomputable def cN(n d:Nat):Option Int->Nat|none=>d|some v=>if v<0 then(v+(n:Int)).toNat else min v.toNat n
theorem BE(n d:Nat):cN n d none=d:=rfl
theorem pW(n d k:Nat):cN n d (some (k:Int))=min k n:=by show(if(k:Int)<0 then((k:Int)+(n:Int)).toNat else min (k:Int).toNat n)=min k n;rw[if_neg (by lia),Int.toNat_natCast]
theorem K2(n d:Nat)(hd:d<=n)(o:Option Int):cN n d o<=n:=by
 cases o with
  |none=>exact hd
  |some v=>
   show(if v<0 then(v+(n:Int)).toNat else min v.toNat n)<=n;by_cases hv:v<0;·rw[if_pos hv];lia
   ·rw[if_neg hv];exact Nat.min_le_right _ _
theorem EF(v:Int)(n d:Nat):(if v<0 then max (v+(n:Int)) 0 else min v (n:Int))=((cN n d (some v):Nat):Int):=by
 show(if v<0 then max (v+(n:Int)) 0 else min v (n:Int))=(((if v<0 then(v+(n:Int)).toNat else min v.toNat n):Nat):Int);by_cases hv:v<0;·simp only[if_pos hv];lia
 ·simp only[if_neg hv];lia
theorem DE(lo hi:Option Int)(n:Nat):Builtin.Slice.sliceAdjust lo hi 1 (n:Int)=(((cN n 0 lo:Nat):Int),((cN n n hi:Nat):Int)):=by
 have h1:¬((1:Int)<0):=by lia
 unfold Builtin.Slice.sliceAdjust;simp only[h1,if_false];refine Prod.ext ?_ ?_;·cases lo with|none=>rfl|some v=>exact EF v n 0
 ·cases hi with|none=>rfl|some v=>exact EF v n n
theorem CA(i j:Nat):Builtin.Slice.slicePlaces (i:Int) (j:Int) 1=j-i:=by
 unfold Builtin.Slice.slicePlaces;have h1:(1:Int)>0:=by lia
 simp only[h1,if_true,Int.ediv_one];split<;>lia
theorem tO{v:Value}{o:Option Int}{Q:Option Int->Shared->Prop}(p:IsPart v o)(h:Q o s):wpAny (model prog w) A (Builtin.Slice.slicePartIndex v) Q E s:=by cases p with|none=>exact slicePart_none h|int i t=>exact slicePart_int h
theorem hW{sl:Addr}{c d:Value}{lo hi:Option Int}{n:Nat}{Q:Int×Int×Nat->Shared->Prop}(e:s.heap.IsSliceOf sl c d .none)(pl:IsPart c lo)(f:IsPart d hi)(h:Q (((cN n 0 lo:Nat):Int),1,cN n n hi-cN n 0 lo) s):wpAny (model prog w) A (Builtin.Slice.sliceApplied (.ref sl) (pure (n:Int))) Q E s:=by obtain⟨os,b,g,a⟩:=id e;unfold Builtin.Slice.sliceApplied Builtin.Slice.sliceFields;refine zQ00 (zQ00 (dD b a (x:=c) rfl (zQ00 (dD b a (x:=d) rfl (zQ00 (dD b a (x:= .none) rfl (zQ02 ?_)))))));refine zQ00 (slicePart_none ?_);show wpAny _ _ (if((1:Int)==0)=true then _ else _) _ _ s;rw[if_neg (by decide)];refine zQ00 (tO pl (zQ00 (tO f (zQ00 (zQ02 ?_)))));show wpAny _ _ (match Builtin.Slice.sliceAdjust lo hi 1 (n:Int)with|(lo,hi)=>pure (lo,(1:Int),Builtin.Slice.slicePlaces lo hi 1)) _ _ s;rw[DE lo hi n];show wpAny _ _ (pure (((cN n 0 lo:Nat):Int),(1:Int),Builtin.Slice.slicePlaces ((cN n 0 lo:Nat):Int) ((cN n n hi:Nat):Int) 1)) _ _ s;rw[CA];exact zQ02 h
theorem JO(xs:Array Value)(i k:Nat):((List.range k).filterMap λ(m:Nat)=>xs[((i:Int)+(m:Int)*1).toNat]?).toArray=((xs.toList.drop i).take k).toArray:=by
 have e:(λ(m:Nat)=>xs[((i:Int)+(m:Int)*1).toNat]?)=λm=>xs[i+m]?:=by
  funext m;have :((i:Int)+(m:Int)*1).toNat=i+m:=by lia
  rw[this]
 rw[e];have :=pick_run xs i k;rw[List.filterMap_map]at this;have a:((λx=>xs[x]?)∘λx=>i+x)=λm=>xs[i+m]?:=rfl;rw[a]at this;rw[this]
theorem lE{t sl:Addr}{items:Array Value}{c d:Value}{lo hi:Option Int}{Q:Value->Shared->Prop}(ht:IsTup s.heap t items)(b:s.heap.IsSliceOf sl c d .none)(pl:IsPart c lo)(j:IsPart d hi)(hw:¬(cN items.size 0 lo=0/\cN items.size items.size hi=items.size))(h:Q (.ref s.heap.objs.size) {s with heap:=s.heap.push {cls:= .type "tuple",data:= .seq ((items.toList.drop (cN items.size 0 lo)).take (cN items.size items.size hi-cN items.size 0 lo)).toArray}})(hsz:items.size<=sizeLine):wpAny (model prog w) A (getItem (.ref t) (.ref sl)) Q E s:=by
 have a:sizeOk (.seq ((items.toList.drop (cN items.size 0 lo)).take (cN items.size items.size hi-cN items.size 0 lo)).toArray):=by show((items.toList.drop (cN items.size 0 lo)).take (cN items.size items.size hi-cN items.size 0 lo)).toArray.size<=sizeLine;rw[cC,jx,jP,Array.length_toList];lia
 have hj:cN items.size items.size hi<=items.size:=K2 _ _ (zQ04 _) hi;obtain⟨os,i,f,k⟩:=id b;have e:s.TypeIs (.ref sl) "slice":=⟨os,i,f⟩;unfold getItem;try with_reducible refine fW ?_
 first|refine zQ00 (zQ02 ?_)|skip
 refine zQ00 (wpAny_sequenceKey ht.typeIs (by decide) ?_);refine zQ00 (wpAny_callSpecial?_slot (name:=Str.ofString "__getitem__") ht.typeIs PyProof.Rows.slot_tuple_getitem (gP PyProof.Rows.slot_tuple_getitem ht.typeIs entry_tuple_getitem ?_ (args_tuple_getitem _ _)));show wpAny _ _ (Builtin.Tuple.tupleItemsOf (.ref t)>>=_) _ _ s;refine zQ00 (tupleItemsOf_ ht ?_);refine zQ00 (wpAny_typeOf e ?_);rw[if_pos (by decide)];refine zQ00 (hW b pl j ?_);have g:¬((((cN items.size 0 lo:Nat):Int)==0&&(1:Int)==1&&(cN items.size items.size hi-cN items.size 0 lo)==items.size)=true):=by intro q;rw[bF,bF]at q;have q1:((cN items.size 0 lo:Nat):Int)=0:=eq_of_beq q.1.1;have q2:cN items.size items.size hi-cN items.size 0 lo=items.size:=eq_of_beq q.2;exact hw ⟨by lia,by lia⟩
 show wpAny _ _ (if(((cN items.size 0 lo:Nat):Int)==0&&(1:Int)==1&&(cN items.size items.size hi-cN items.size 0 lo)==items.size)=true then _ else _) _ _ s;rw[if_neg g,JO];first|exact zQ00 (m:=Builtin.Tuple.tupleExact _) (jV (zQ02 ⟨_,rfl,zQ02 h⟩) a)|exact zQ00 (m:=Builtin.Tuple.tupleExact _) (jV (zQ00 (zQ02 (zQ02 ⟨_,rfl,zQ02 h⟩))) a)|exact zQ00 (zQ00 (m:=Builtin.Tuple.tupleExact _) (jV (zQ02 (zQ02 ⟨_,rfl,zQ02 h⟩)) a))|exact zQ00 (zQ00 (m:=Builtin.Tuple.tupleExact _) (jV (zQ02 ⟨_,rfl,zQ02 h⟩) a))
end
end HT
end
section
namespace L2
open PySem PySem.Spec PyProof.Rows
noncomputable abbrev TO:=St->Hp->(Option Int->Hp->Prop)->Prop
noncomputable def PO(X:Cx)(e:Option Expr)(t:TO):Prop:=∀(pins:List (Addr×Obj))(s:Shared)(σ:St)(H:Hp)(Q:Option Int->Hp->Prop),Inv X pins σ H s->t σ H Q->wpAny (model X.prog X.w) X.A (evalPart e X.env) (λu s'=>∃o H',Inv X pins σ H' s'/\IsPart u o/\Q o H') X.xe s
noncomputable def MS:TO:=λ_ H Q=>Q none H
noncomputable def Vq(t:TE):TO:=λσ H Q=>t σ H λx a=>∃i,x= .int i/\Q (some i) a
section
variable{X:Cx}{e:Expr}{te:TE}{lo hi:Option Expr}{tl th:TO}{pos p2:Pos}
theorem fK:PO X none MS:=by intro pins s σ H Q I h;rw[evalPart_none];exact zQ02 ⟨none,H,I, .none,h⟩
theorem eT(h:PE X e te):PO X (some e) (Vq te):=by intro pins s σ H Q I hw;rw[evalPart_some];refine bE (h pins s σ H _ I hw) λu s1 d=>?_;obtain⟨x,a,b,c,q1⟩:=d;obtain⟨i,rfl,q⟩:=q1;obtain⟨t,rfl⟩:=c;exact⟨some i,a,b, .int i t,q⟩
noncomputable def Zf(X:Cx)(r:V->Option Int->Option Int->Hp->VK->Prop):Prop:=∀(pins:List (Addr×Obj))(s:Shared)(σ:St)(H:Hp)(x:V)(v a b:Value)(lo hi:Option Int)(sl:Addr)(Q:VK),Inv X pins σ H s->RelV x v->s.heap.IsSliceOf sl a b .none->IsPart a lo->IsPart b hi->r x lo hi H Q->∃T id,typeLookup (.type T) "__getitem__"=pure (some (.builtin id))/\s.TypeIs v T/\wpAny (model X.prog X.w) X.A (getItem v (.ref sl)) (EP X pins σ Q) X.xe s
noncomputable def tSl(r:V->Option Int->Option Int->Hp->VK->Prop)(te:TE)(tl th:TO):TE:=λσ H Q=>te σ H λx a=>tl σ a λl b=>th σ b λu c=>r x l u c Q
theorem eX{r:V->Option Int->Option Int->Hp->VK->Prop}(hr:Zf X r)(he:PE X e te)(hl:PO X lo tl)(t:PO X hi th):PE X (.Subscript e (.Slice lo hi none p2) pos) (tSl r te tl th):=by intro pins s σ H Q I h;refine Subscript_ (bE (he pins s σ H _ I h) λv s1 f=>?_);obtain⟨x,i,k,y,q1⟩:=f;refine wpAny_Slice (bE (hl pins s1 σ i _ k q1) λc s2⟨l,j,m,pl,q2⟩=>bE (t pins s2 σ j _ m q2) λd a f=>?_);obtain⟨u,g,n,w,q3⟩:=f;rw[evalPart_none];refine zQ02 ?_;have o:Inv X pins σ g {a with heap:=a.heap.push {cls:= .type "slice",data:= .fields #[c,d, .none]}}:=n.kept (t':=a.toks) λb ob q=>zQ01 _ q;obtain⟨T,id,hT,ht,p⟩:=hr pins {a with heap:=a.heap.push {cls:= .type "slice",data:= .fields #[c,d, .none]}} σ g x v c d l u a.heap.objs.size Q o y (Heap.IsSliceOf.new ..) pl w q3;show wpAny (model X.prog X.w) X.A (subscriptTail e (.Slice lo hi none p2) v (.ref a.heap.objs.size)) (EP X pins σ Q) X.xe {a with heap:=a.heap.push {cls:= .type "slice",data:= .fields #[c,d, .none]}};exact tail_any (ops:=[.ref a.heap.objs.size,v]) ht hT p (by with_unfolding_all rfl)
noncomputable def iA(xs:List V)(lo hi:Option Int):List V:=(xs.drop (HT.cN xs.length 0 lo)).take (HT.cN xs.length xs.length hi-HT.cN xs.length 0 lo)
theorem oH(xs:List V)(lo hi:Option Int):(iA xs lo hi).length<=xs.length:=by unfold iA;rw[jx,jP];lia
noncomputable def aaY(K:PySem.W.Frag):V->Option Int->Option Int->Hp->VK->Prop:=λx lo hi H Q=>∃a xs,x= .ref a/\cu K H a xs/\¬(HT.cN xs.length 0 lo=0/\HT.cN xs.length xs.length hi=xs.length)/\∀p,H p=none->Q (.ref p) (upd H p (.tup (iA xs lo hi)))
theorem S_:Zf X (aaY X.K):=by
 intro pins s σ H x v j k lo hi sl Q I i d pl g h;obtain⟨a,xs,rfl,f,hw,q⟩:=h;cases i;obtain⟨its,r,ht,c⟩:=I.tuple f;have hlen:its.toArray.size=xs.length:=by rw[cC];exact r.length.symm
 refine⟨"tuple",_,PyProof.Rows.slot_tuple_getitem.lookup,ht.typeIs,?_⟩;refine HT.lE ht d pl g (by rw[hlen];exact hw) ?_ (by rw[hlen];exact c);rw[hlen];refine⟨.ref s.heap.objs.size,_,I.laid (t':=s.toks) (o:= .tup (iA xs lo hi)) (λb ob q=>zQ01 _ q) (zQ04 _) ?_,rfl,q _ (I.bT.fresh (zQ04 _))⟩;exact⟨cw (oH xs lo hi) c,_,(r.drop (HT.cN xs.length 0 lo)).take (HT.cN xs.length xs.length hi-HT.cN xs.length 0 lo),IsTup.new _ _⟩
noncomputable def Xa(K:PySem.W.Frag):R2:=λx y H Q=>∃a b xs ys,x= .ref a/\y= .ref b/\cu K H a xs/\cu K H b ys/\xs≠[]/\xs.length+ys.length<=sizeLine/\(ys=[]->Q (.ref a) H)/\(ys≠[]->∀p,H p=none->Q (.ref p) (upd H p (.tup (xs++ys))))
theorem Vals.qM{xs:List V}{us:List Value}(r:Vals xs us):us=[]↔xs=[]:=by cases r with|nil=>simp|cons _ _=>simp
theorem LV:jH X (binaryOp .Add) (Xa X.K):=by intro pins s σ H x y v u Q I j k h;obtain⟨a,b,xs,ys,rfl,rfl,ha,hb,g,f,q1,q2⟩:=h;cases j;cases k;obtain⟨its,d,i,_⟩:=I.tuple ha;obtain⟨l,c,p2,_⟩:=I.tuple hb;refine HT.LU i p2 (λz=>g (d.qM.mp z)) (λz=>⟨.ref a,H,I,rfl,q1 (c.qM.mp z)⟩) (λz=>?_) (by rw[<-d.length,<-c.length];exact f);refine⟨.ref s.heap.objs.size,_,I.laid (t':=s.toks) (o:= .tup (xs++ys)) (λb ob q=>zQ01 _ q) (zQ04 _) ?_,rfl,q2 (λw=>z (c.qM.mpr w)) _ (I.bT.fresh (zQ04 _))⟩;exact⟨by rw[cS];exact f,_,d.append c,IsTup.new _ _⟩
end
noncomputable def Mv(n:Nat)(i:Int):Option Nat:=if 0<=i then(if i<n then some i.toNat else none)else if-(n:Int)<=i then some (i+n).toNat else none
noncomputable def lJ{a:Type}(xs:List a)(i:Int):Option a:=(Mv xs.length i).bind λj=>xs[j]?
theorem Fv{n:Nat}{i:Int}{j:Nat}(h:Mv n i=some j):seqIndex? i n=some j/\j<n/\-(n:Int)<=i/\i<n:=by
 unfold Mv at h;by_cases a:0<=i
 ·rw[if_pos a]at h;by_cases h1:i<n;·rw[if_pos h1]at h;have e:i.toNat=j:=Option.some.inj h;exact⟨by rw[seqIndex_of a h1,e],by lia,by lia,h1⟩
  ·rw[if_neg h1]at h;cases h
 ·rw[if_neg a]at h;by_cases h1:-(n:Int)<=i;·rw[if_pos h1]at h;have e:(i+n).toNat=j:=Option.some.inj h;exact⟨by rw[seqIndex_neg (by lia) h1,e],by lia,h1,by lia⟩
  ·rw[if_neg h1]at h;cases h
theorem vW{a:Type}{xs:List a}{i:Int}{v:a}(h:lJ xs i=some v):∃j,seqIndex? i xs.length=some j/\xs[j]?=some v/\j<xs.length/\-(xs.length:Int)<=i/\i<xs.length:=by unfold lJ at h;cases e:Mv xs.length i with|none=>rw[e]at h;cases h|some j=>rw[e]at h;obtain⟨h1,h2,h3,h4⟩:=Fv e;exact⟨j,h1,h,h2,h3,h4⟩
theorem aR{a:Type}{xs:List a}{j:Nat}{v:a}(h:xs[j]?=some v):lJ xs (j:Int)=some v:=by
 have hj:j<xs.length:=(List.getElem?_eq_some_iff.mp h).1;have e:Mv xs.length (j:Int)=some j:=by unfold Mv;rw[if_pos (by lia),if_pos (by lia)];simp
 unfold lJ;rw[e];exact h
theorem Bl{a:Type}(xs:List a)(v:a):lJ (xs++[v]) (-1)=some v:=by
 have hl:(xs++[v]).length=xs.length+1:=by simp
 have e:Mv (xs++[v]).length (-1)=some xs.length:=by unfold Mv;rw[hl,if_neg (by decide),if_pos (by lia)];congr 1;lia
 unfold lJ;rw[e];show(xs++[v])[xs.length]?=some v;simp
def ML(b:Expr):Prop:=∀o i,subscripted b false o i=operate [o,i] (getItem o i)
noncomputable def Y1(X:Cx)(r:R2):Prop:=∀(value slice:Expr)(pins:List (Addr×Obj))(s:Shared)(σ:St)(H:Hp)(x y:V)(v u:Value)(Q:VK),Inv X pins σ H s->RelV x v->RelV y u->r x y H Q->subscripted slice false v u=operate [v,u] (getItem v u)->wpAny (model X.prog X.w) X.A (subscriptTail value slice v u) (EP X pins σ Q) X.xe s
noncomputable def Tv(X:Cx)(id:String)(r:V->List V->Hp->VK->Prop):Prop:=∀(pins:List (Addr×Obj))(s:Shared)(σ:St)(H:Hp)(x:V)(xs:List V)(v:Value)(us:List Value)(Q:VK),Inv X pins σ H s->RelV x v->Vals xs us->r x xs H Q->wpAny (model X.prog X.w) X.A (call (.builtin id) (v::us)) (EP X pins σ Q) X.xe s
section
variable{X:Cx}{a b:Expr}{ta tb:TE}{pos:Pos}
theorem aX{r:R2}(hr:Y1 X r)(ha:PE X a ta)(hb:PE X b tb)(e:ML b):PE X (.Subscript a b pos) (Rw r ta tb):=by intro pins s σ H Q I h;exact Subscript_ (QV ha hb I h λv u s2 x y c d f g q=>hr a b pins s2 σ c x y v u Q d f g q (e _ _))
noncomputable def XT(K:PySem.W.Frag):R2:=λx y H Q=>∃p xs i v,x= .ref p/\y= .int i/\aZ K H p xs/\lJ xs i=some v/\Q v H
noncomputable def aaX(K:PySem.W.Frag):R2:=λx y H Q=>∃p xs i v,x= .ref p/\y= .int i/\cu K H p xs/\lJ xs i=some v/\Q v H
noncomputable def aal:R2:=λx y H Q=>∃z i c,x= .str z/\y= .int i/\z.length<=sizeLine/\lJ z.cps.toList i=some c/\Q (.str ⟨#[c]⟩) H
theorem bJ:Y1 X (XT X.K):=by
 intro value slice pins s σ H x y v u Q I g k h e;obtain⟨p,xs,i,z,rfl,rfl,hq,he,q⟩:=h;cases g;obtain⟨t,rfl⟩:=k;obtain⟨its,r,pl,l⟩:=I.list hq;obtain⟨j,h1,h2,h3,h4,h5⟩:=vW he;obtain⟨w,c,f⟩:=r.get h2;have hl:=r.length;have hn:=m8;have fin:EP X pins σ Q w s:=⟨z,H,I,f,q⟩;by_cases d:0<=i
 ·have hj:i.toNat=j:=by rw[seqIndex_of d h5]at h1;exact Option.some.inj h1
  exact item_listR pl.isList d (by lia) (by rw[hj];simpa using c) fin e
 ·have hj:(i+(its.toArray.size:Int)).toNat=j:=by rw[seqIndex_neg (by lia) h4]at h1;rw[cC,<-hl];exact Option.some.inj h1
  exact subscriptTail_builtinR (x:=w) pl.isList.typeIs slot_list_getitem.lookup (wpAny_getItem_list_neg (Q:=λr s'=>r=w/\EP X pins σ Q r s') pl.isList (by lia) (by rw[cC]<;>lia) (by lia) (by rw[hj];simpa using c) ⟨rfl,fin⟩) e
theorem bB:Y1 X (aaX X.K):=by intro value slice pins s σ H x y v u Q I f g h d;obtain⟨p,xs,i,z,rfl,rfl,hq,he,q⟩:=h;cases f;obtain⟨t,rfl⟩:=g;obtain⟨its,r,pl,k⟩:=I.tuple hq;obtain⟨j,h1,h2,h3,h4,h5⟩:=vW he;obtain⟨w,c,e⟩:=r.get h2;have hl:=r.length;have hn:=m8;have fin:EP X pins σ Q w s:=⟨z,H,I,e,q⟩;exact subscriptTail_builtinR (x:=w) pl.typeIs slot_tuple_getitem.lookup (getItem_tuple (j:=j) (Q:=λr s'=>r=w/\EP X pins σ Q r s') pl (by lia) (by lia) (by rw[cC,<-hl];exact h1) (by simpa using c) ⟨rfl,fin⟩) d
theorem sS:Y1 X aal:=by
 intro value slice pins s σ H x y v u Q I g k h f;obtain⟨z,i,c,rfl,rfl,l,he,q⟩:=h;obtain⟨t,rfl⟩:=g;obtain⟨t',rfl⟩:=k;obtain⟨j,h1,h2,h3,h4,h5⟩:=vW he;have hl:z.cps.toList.length=z.length:=by simp[Str.length]
 rw[hl]at h1 h4 h5;have hn:=m8;exact tail_any (typeIs_str s z t) slot_str_getitem.lookup (getItem_str (c:=c) (by have d:decide (i< -(2^63:Int))=false:=decide_eq_false (by lia);have e:decide (i>=2^63)=false:=decide_eq_false (by lia);rw[d,e,Bool.or_false]) (by rw[h1];simpa using h2) ⟨.str ⟨#[c]⟩,H,I.tok _,⟨_,rfl⟩,q⟩) f
theorem CV(its:List Value)(n j:Nat)(u:Value):Obj.mapSeq (·.setIfInBounds j u) {cls:= .type "list",data:= .seq its.toArray n}={cls:= .type "list",data:= .seq (its.set j u).toArray n}:=by simp[Obj.mapSeq]
theorem Inv.lst{pins:List (Addr×Obj)}{σ:St}{H:Hp}{s:Shared}{p:Addr}{xs:List V}(I:Inv X pins σ H s)(h:H p=some (.lst xs)):∃(its:List Value)(n:Nat),Vals xs its/\s.heap.get? p=some {cls:= .type "list",data:= .seq its.toArray n}/\xs.length<=sizeLine:=by obtain⟨z,its,n,r,e⟩:=I.bT p _ h;exact⟨its,n,r,e,z⟩
theorem Inv.RJ{pins:List (Addr×Obj)}{σ:St}{H:Hp}{s:Shared}{p:Addr}{xs ys:List V}{its its':List Value}{n c:Nat}{f:Obj->Obj}(I:Inv X pins σ H s)(h:H p=some (.lst xs))(ho:s.heap.get? p=some {cls:= .type "list",data:= .seq its.toArray n})(d:f {cls:= .type "list",data:= .seq its.toArray n}={cls:= .type "list",data:= .seq its'.toArray c})(r:Vals ys its')(g:ys.length<=sizeLine)(t:Nat):Inv X pins σ (upd H p (.lst ys)) {s with heap:=s.heap.update p f,toks:=t}:=by
 have e:(s.heap.update p f).get? p=some {cls:= .type "list",data:= .seq its'.toArray c}:=by rw[pk f ho (by rw[d]<;>rfl),d]
 refine I.write (x:=p) (e:=p) (by rw[h];trivial) (.inl rfl) (λb u hb q=>(iW _ _ (Ne.symm hb)).trans q) ⟨_,e⟩ ?_;exact⟨g,its',c,r,e⟩
noncomputable def VE:V->V->V->Hp->(Hp->Prop)->Prop:=λo i v H Q=>∃p xs k j,o= .ref p/\i= .int k/\H p=some (.lst xs)/\Mv xs.length k=some j/\Q (upd H p (.lst (xs.set j v)))
theorem set_list:VX X VE:=by
 intro pins s σ H o i v y x u Q I m l w h;obtain⟨p,xs,k,j,rfl,rfl,f,hj,q⟩:=h;cases m;obtain⟨t,rfl⟩:=l;obtain⟨its,n,r,ho,g⟩:=I.lst f;obtain⟨h1,h2,h3,h4⟩:=Fv hj;have hl:=r.length;have hn:=m8;have d:Inv X pins σ (upd H p (.lst (xs.set j v))) {s with heap:=s.heap.update p (Obj.mapSeq (·.setIfInBounds j u))}:=I.RJ f ho (CV its n j u) (r.set w j) (by rw[List.length_set];exact g) s.toks;by_cases e:0<=k
 ·have c:k.toNat=j:=by rw[seqIndex_of e h4]at h1;exact Option.some.inj h1
  exact PySem.W.ki_setAt ho e (by lia) (by rw[cC,<-hl];exact h4) (by rw[c];exact⟨_,d,q⟩)
 ·have c:(k+(its.toArray.size:Int)).toNat=j:=by rw[seqIndex_neg (by lia) h3]at h1;rw[cC,<-hl];exact Option.some.inj h1
  exact PySem.W.ki_setBack ho (by lia) (by rw[cC,<-hl];exact h3) (by lia) (by rw[c];exact⟨_,d,q⟩)
theorem lK(lo hi:Option Int)(n:Nat):(sliceBounds lo hi none n).1=((HT.cN n 0 lo:Nat):Int)/\(sliceBounds lo hi none n).2.1=((HT.cN n n hi:Nat):Int)/\(sliceBounds lo hi none n).2.2=1:=by
 refine⟨?_,?_,rfl⟩
 ·cases lo with
   |none=>simp[sliceBounds,HT.cN]
   |some i=>
    simp only[sliceBounds,HT.cN,Option.getD_none,show(1:Int)>0 by decide,if_true];by_cases h:i<0;·simp only[h,if_true]<;>lia
    ·simp only[h,if_false]<;>lia
 ·cases hi with
   |none=>simp[sliceBounds,HT.cN]
   |some i=>
    simp only[sliceBounds,HT.cN,Option.getD_none,show(1:Int)>0 by decide,if_true];by_cases h:i<0;·simp only[h,if_true]<;>lia
    ·simp only[h,if_false]<;>lia
theorem uA(its:List Value)(lo hi:Option Int):slicePick its.toArray lo hi none=((its.drop (HT.cN its.length 0 lo)).take (HT.cN its.length its.length hi-HT.cN its.length 0 lo)).toArray:=by obtain⟨h1,h2,h3⟩:=lK lo hi its.toArray.size;unfold slicePick;rw[h1,h2,h3];simp only[sliceRange_one,pick_run,cC]<;>rfl
noncomputable def aan(K:PySem.W.Frag):V->Option Int->Option Int->Hp->VK->Prop:=λx lo hi H Q=>∃a xs,x= .ref a/\aZ K H a xs/\∀p,H p=none->Q (.ref p) (upd H p (.lst (iA xs lo hi)))
theorem qd:Zf X (aan X.K):=by intro pins s σ H x v i j lo hi sl Q I g c pl f h;obtain⟨a,xs,rfl,d,q⟩:=h;cases g;obtain⟨its,r,ht,e⟩:=I.list d;have hlen:=r.length;refine⟨"list",_,slot_list_getitem.lookup,ht.isList.typeIs,?_⟩;refine wpAny_getItem_list_slice ht.isList c pl f .none (by simp) ?_ (by rw[cC]<;>lia);rw[uA,<-hlen];refine⟨.ref s.heap.objs.size,_,I.laid (t':=s.toks) (o:= .lst (iA xs lo hi)) (λb ob q=>zQ01 _ q) (zQ04 _) ?_,rfl,q _ (I.bT.fresh (zQ04 _))⟩;exact⟨cw (oH xs lo hi) e,_,0,(r.drop (HT.cN xs.length 0 lo)).take (HT.cN xs.length xs.length hi-HT.cN xs.length 0 lo),zQ12 _ rfl⟩
noncomputable def mr:V->Bool| .bA=>true| .bl _=>true| .int _=>true| .str _=>true|_=>false
noncomputable def PF:V->V->Bool| .bA, .bA=>true| .bl a, .bl b=>a==b| .bl a, .int b=>(if a then 1 else 0)==b| .int a, .bl b=>a==(if b then 1 else 0)| .int a, .int b=>a==b| .str a, .str b=>a==b|_,_=>false
theorem Tp{A:Around}{s:Shared}{y x:V}{u v:Value}(e:RelV y u)(c:RelV x v)(f:mr y=true)(d:mr x=true):SeqAt.EqAt A s u v (PF y x):=by
 cases y with
  |bA=>cases e;cases x with|bA=>cases c;exact SeqAt.EqAt.same _|bl b=>cases c;exact SeqAt.EqAt.none_bool b|int b=>obtain⟨t,rfl⟩:=c;exact SeqAt.EqAt.none_int b t|str b=>obtain⟨t,rfl⟩:=c;exact SeqAt.EqAt.none_str b t|_=>exact absurd (show false=true from d) eE
  |bl a=>cases e;cases x with|bA=>cases c;exact SeqAt.EqAt.bool_none a|bl b=>cases c;exact SeqAt.EqAt.bool_bool a b|int b=>obtain⟨t,rfl⟩:=c;exact SeqAt.EqAt.bool_int a b t|str b=>obtain⟨t,rfl⟩:=c;exact SeqAt.EqAt.bool_str a b t|_=>exact absurd (show false=true from d) eE
  |int a=>obtain⟨t',rfl⟩:=e;cases x with|bA=>cases c;exact SeqAt.EqAt.int_none a t'|bl b=>cases c;exact SeqAt.EqAt.int_bool a t' b|int b=>obtain⟨t,rfl⟩:=c;exact SeqAt.EqAt.int_int a t' b t|str b=>obtain⟨t,rfl⟩:=c;exact SeqAt.EqAt.int_str a t' b t|_=>exact absurd (show false=true from d) eE
  |str a=>obtain⟨t',rfl⟩:=e;cases x with|bA=>cases c;exact SeqAt.EqAt.str_none a t'|bl b=>cases c;exact SeqAt.EqAt.str_bool a t' b|int b=>obtain⟨t,rfl⟩:=c;exact SeqAt.EqAt.str_int a t' b t|str b=>obtain⟨t,rfl⟩:=c;exact SeqAt.EqAt.str_str a t' b t|_=>exact absurd (show false=true from d) eE
  |_=>exact absurd (show false=true from f) eE
noncomputable def C1(x:V)(u:Value):Bool:=match u with| .none=>PF .bA x| .bool b=>PF (.bl b) x| .int i _=>PF (.int i) x| .str z _=>PF (.str z) x|_=>false
theorem JF{x y:V}{u:Value}(r:RelV y u)(f:mr y=true):C1 x u=PF y x:=by cases y with|bA=>cases r;rfl|bl b=>cases r;rfl|int i=>obtain⟨t,rfl⟩:=r;rfl|str z=>obtain⟨t,rfl⟩:=r;rfl|_=>exact absurd (show false=true from f) eE
theorem mD{x:V}:∀{xs:List V}{us:List Value},Vals xs us->xs.all mr=true->us.any (C1 x)=xs.any λy=>PF y x|_,_, .nil,_=>rfl|y::xs,u::us, .cons r t,f=>by rw[List.all_cons,bF]at f;rw[List.any_cons,List.any_cons,JF r f.1,mD t f.2]
theorem jd{A:Around}{s:Shared}{x:V}{v:Value}(e:RelV x v)(d:mr x=true):∀{xs:List V}{us:List Value},Vals xs us->xs.all mr=true->∀u∈us,SeqAt.EqAt A s u v (C1 x u)
 |_,_, .nil,_=>λu c=>by cases c
 |y::xs,u::us, .cons r t,f=>λg c=>by
  rw[List.all_cons,bF]at f;rcases List.mem_cons.mp c with rfl|c;·rw[JF r f.1];exact Tp r e f.1 d
  ·exact jd e d t f.2 g c
noncomputable def O7(x:V)(xs:List V):Bool:=xs.any λy=>PF y x
noncomputable def rIn(K:PySem.W.Frag)(neg:Bool):R2:=λx y H Q=>∃p xs,y= .ref p/\(aZ K H p xs\/cu K H p xs)/\mr x=true/\xs.all mr=true/\Q (.bl (if neg then !O7 x xs else O7 x xs)) H
theorem m5:jH X (compareOp .In) (rIn X.K false):=by
 intro pins s σ H x y v u Q I d f h;obtain⟨p,xs,rfl,hq,c,fs,q⟩:=h;cases f;rcases hq with hq|hq;·obtain⟨its,r,pl,e⟩:=I.list hq;refine SeqAt.in_listAt (C1 x) pl.isList (λw hw=>jd d c r fs w (by simpa using hw)) ⟨.bl _,H,I,rfl,?_⟩;rw[show its.toArray.any (C1 x)=its.any (C1 x)by simp,mD r fs];exact q
 ·obtain⟨its,r,pl,e⟩:=I.tuple hq;refine SeqAt.in_tupleAt (C1 x) pl (λw hw=>jd d c r fs w (by simpa using hw)) ⟨.bl _,H,I,rfl,?_⟩;rw[show its.toArray.any (C1 x)=its.any (C1 x)by simp,mD r fs];exact q
theorem yc:jH X (compareOp .NotIn) (rIn X.K true):=by
 intro pins s σ H x y v u Q I d f h;obtain⟨p,xs,rfl,hq,c,fs,q⟩:=h;cases f;rcases hq with hq|hq;·obtain⟨its,r,pl,e⟩:=I.list hq;refine SeqAt.notIn_listAt (C1 x) pl.isList (λw hw=>jd d c r fs w (by simpa using hw)) ⟨.bl _,H,I,rfl,?_⟩;rw[show its.toArray.any (C1 x)=its.any (C1 x)by simp,mD r fs];exact q
 ·obtain⟨its,r,pl,e⟩:=I.tuple hq;refine SeqAt.notIn_tupleAt (C1 x) pl (λw hw=>jd d c r fs w (by simpa using hw)) ⟨.bl _,H,I,rfl,?_⟩;rw[show its.toArray.any (C1 x)=its.any (C1 x)by simp,mD r fs];exact q
theorem aM:gm X (.builtin "len") (λxs H Q=>∃p ys,xs=[.ref p]/\(aZ X.K H p ys\/cu X.K H p ys)/\Q (.int ys.length) H):=by
 intro pins s σ H xs us Q I r h;obtain⟨p,ys,rfl,hq,q⟩:=h;obtain⟨u,rfl,e⟩:=vals1 r;cases e;have hn:=m8;rcases hq with hq|hq;·obtain⟨its,c,pl,d⟩:=I.list hq;have hlen:=c.length;exact Calls.call_len_list pl.isList (by simp only[cC]<;>lia) ⟨.int ys.length,H,I.tok _,⟨s.toks+1,by rw[cC,hlen]⟩,q⟩
 ·obtain⟨its,c,pl,d⟩:=I.tuple hq;have hlen:=c.length;exact len_tuple pl (by simp only[cC]<;>lia) ⟨.int ys.length,H,I.tok _,⟨s.toks+1,by rw[cC,hlen]⟩,q⟩
theorem dZ:gm X (.builtin "len") (λxs H Q=>∃z,xs=[.str z]/\z.length<=sizeLine/\Q (.int z.length) H):=by intro pins s σ H xs us Q I r h;obtain⟨z,rfl,c,q⟩:=h;obtain⟨u,rfl,t,rfl⟩:=vals1 r;have hn:=m8;exact len_str (by lia) ⟨.int z.length,H,I.tok _,⟨_,rfl⟩,q⟩
theorem iI:gm X (.type "list") (λxs H Q=>∃p ys,xs=[.ref p]/\(aZ X.K H p ys\/cu X.K H p ys)/\∀l,H l=none->Q (.ref l) (upd H l (.lst ys))):=by
 intro pins s σ H xs us Q I r h;obtain⟨p,ys,rfl,hq,q⟩:=h;obtain⟨u,rfl,g⟩:=vals1 r;cases g;have fin:∀(its:List Value),Vals ys its->ys.length<=sizeLine->∀(h':Heap)(c:Nat),(∀b o',s.heap.get? b=some o'->h'.get? b=some o')->h'.get? s.heap.objs.size=some {cls:= .type "list",dict:=none,data:= .seq its.toArray c,slots:=#[]}->EP X pins σ Q (.ref s.heap.objs.size) {s with heap:=h'}:=λits d f h' c kp e=>⟨.ref s.heap.objs.size,_,I.laid (t':=s.toks) kp (zQ04 _) (show bV X.prog X.w _ h' _ (.lst ys)from⟨f,its,c,d,e⟩),rfl,q _ (I.bT.fresh (zQ04 _))⟩;rcases hq with hq|hq;·obtain⟨its,d,pl,f⟩:=I.list hq;have hlen:=d.length;obtain⟨o,ho,hc,n,hd⟩:=pl.isList;exact call_list_seq p (.inl rfl) ho hc hd (λh' c kp e=>fin its d f h' c kp e) (by simp only[cC]<;>lia)
 ·obtain⟨its,d,pl,f⟩:=I.tuple hq;have hlen:=d.length;obtain⟨o,ho,hc,n,hd⟩:=pl;exact call_list_seq p (.inr rfl) ho hc hd (λh' c kp e=>fin its d f h' c kp e) (by simp only[cC]<;>lia)
theorem j7:gm X (.type "tuple") (λxs H Q=>∃p ys,xs=[.ref p]/\((aZ X.K H p ys/\∀l,H l=none->Q (.ref l) (upd H l (.tup ys)))\/(cu X.K H p ys/\Q (.ref p) H))):=by
 intro pins s σ H xs us Q I r h;obtain⟨p,ys,rfl,h⟩:=h;obtain⟨u,rfl,i⟩:=vals1 r;cases i;rcases h with⟨hq,q⟩|⟨hq,q⟩;·obtain⟨its,c,pl,f⟩:=I.list hq;have hlen:=c.length;refine call_tuple_list pl.isList (λh' kp=>?_) (by simp only[cC]<;>lia);have d:Inv X pins σ H {s with heap:=h'}:=I.kept (t':=s.toks) kp;have g:Inv X pins σ (upd H h'.objs.size (.tup ys)) {s with heap:=h'.push {cls:= .type "tuple",data:= .seq its.toArray}}:=d.laid (t':=s.toks) (λb o e=>zQ01 _ e) (zQ04 _) (show bV X.prog X.w _ _ _ (.tup ys)from⟨f,its,c,IsTup.new _ _⟩);exact⟨.ref h'.objs.size,_,g,rfl,q _ (d.bT.fresh (zQ04 _))⟩
 ·obtain⟨its,c,pl,f⟩:=I.tuple hq;exact call_tuple_same pl ⟨.ref p,H,I,rfl,q⟩
def tyV(K:PySem.W.Frag)(T:String)(x:V)(H:Hp):Prop:=match x with| .str _=>T="str"| .int _=>T="int"| .ref p=>(T="list"/\∃xs,aZ K H p xs)\/(T="tuple"/\∃o,K.lookup p=some o/\o.cls= .type "tuple"/\o.dict=none)\/(T="dict"/\((∃kvs,H p=some (.dK kvs))\/∃kvs,H p=some (.dT kvs)))\/(T="set"/\∃S n,H p=some (.set S n))|_=>False
theorem Ik{pins:List (Addr×Obj)}{σ:St}{H:Hp}{s:Shared}{T:String}{x:V}{v:Value}(I:Inv X pins σ H s)(r:RelV x v)(ty:tyV X.K T x H):s.TypeIs v T/\∀a,v= .ref a->∃ob,s.heap.get? a=some ob/\ob.dict=none:=by
 cases x with
  |str z=>obtain⟨t,rfl⟩:=r;cases(show T="str"from ty);exact⟨typeIs_str s z t,λ_ e=>nomatch e⟩
  |int i=>obtain⟨t,rfl⟩:=r;cases(show T="int"from ty);exact⟨typeIs_int s i t,λ_ e=>nomatch e⟩
  |ref p=>
   cases r;rcases ty with⟨rfl,xs,hq⟩|⟨rfl,o,d,hc,hd⟩|⟨rfl,d⟩|⟨rfl,S,n,d⟩;·obtain⟨its,_,pl,_⟩:=I.list hq;refine⟨pl.isList.typeIs,λa e=>?_⟩;cases e;obtain⟨o,n,e,c,hd,_⟩:=pl;exact⟨o,e,hd⟩
   ·refine⟨⟨o,I.jl p o d,hc⟩,λa e=>?_⟩;cases e;exact⟨o,I.jl _ o d,hd⟩
   ·have z:∃o,s.heap.get? p=some o/\o.ExactDict:=by
     rcases d with⟨kvs,d⟩|⟨kvs,d⟩;·obtain⟨_,_,_,_,o,_,_,e,ex,_⟩:=I.bT p _ d;exact⟨o,e,ex⟩
     ·obtain⟨_,_,_,_,o,_,_,e,ex,_⟩:=I.bT p _ d;exact⟨o,e,ex⟩
    obtain⟨o,e,ex⟩:=z;refine⟨⟨o,e,ex.1⟩,λa f=>?_⟩;cases f;exact⟨o,e,ex.2.1⟩
   ·obtain⟨o,_,_,_,e,ex,_⟩:=I.bT p _ d;refine⟨⟨o,e,ex.1⟩,λa f=>?_⟩;cases f;exact⟨o,e,ex.2.1⟩
  |_=>exact False.elim ty
noncomputable def aaz(K:PySem.W.Frag)(T:String)(r:V->List V->Hp->VK->Prop)(to:TE):TE:=λσ H Q=>to σ H λx c=>tyV K T x c/\r x [] c Q
noncomputable def tBM(K:PySem.W.Frag)(T:String)(r:V->List V->Hp->VK->Prop)(to:TE)(t:TA):TE:=λσ H Q=>to σ H λx c=>tyV K T x c/\t σ c λxs d=>r x xs d Q
variable{o e:Expr}{es:List Expr}{to:TE}{t:TA}{name:Str}{apos dA:Pos}{T id:String}{r:V->List V->Hp->VK->Prop}
theorem R8(k:PlainAttrs T)(slot:Slot T name id)(j:typeOf (.builtin id)=pure (.type "method_descriptor"))(hm:Tv X id r)(ho:PE X o to)(g:attributeBase o name X.env (eval o X.env)=eval o X.env:=by rfl)(i:(apos.endLine==dA.line)=true:=by rfl):PE X (.Call (.Attribute o name apos) [] [] dA) (aaz X.K T r to):=by intro pins s σ H Q I h;refine wpAny_Call_method0_late g i (bE (ho pins s σ H _ I h) λv s1 l=>?_);obtain⟨x,f,c,d,ty,q1⟩:=l;obtain⟨h1,h2⟩:=Ik c d ty;exact⟨T,id,k,slot,j,h1,h2,Calls.callWith_builtin rfl (PySem.evalArgs_none (hm pins s1 σ f x [] v [] Q c d .nil q1))⟩
theorem gg(u:PlainAttrs T)(slot:Slot T name id)(q:typeOf (.builtin id)=pure (.type "method_descriptor"))(hm:Tv X id r)(ho:PE X o to)(ha:PA X (e::es) t)(k:attributeBase o name X.env (eval o X.env)=eval o X.env:=by rfl)(l:((backTo dA (starEach (e::es) X.env)).all (λx=>!x.1)&&(backToKw dA (keywordEach [] X.env)).all (λx=>x.1.isSome)&&decide ((e::es).length+([]:List Keyword).length+(if([]:List Keyword).isEmpty then 0 else 1)<30))=true:=by rfl)(m:(apos.endLine==dA.line)=true:=by rfl)(p:starEach (e::es) X.env=(false,eval e X.env)::starEach es X.env:=by rfl)(n:(backTo dA (starEach es X.env)).any (·.1)=false:=by rfl):PE X (.Call (.Attribute o name apos) (e::es) [] dA) (tBM X.K T r to t):=by intro pins s σ H Q I h;refine wpAny_Call_method_late k l m rfl (bE (ho pins s σ H _ I h) λv s1 y=>?_);obtain⟨x,g,c,f,ty,q1⟩:=y;obtain⟨h1,h2⟩:=Ik c f ty;refine⟨T,id,u,slot,q,h1,h2,?_⟩;have d:=ha dA pins s1 σ g _ c q1;rw[p]at d⊢;refine Calls.callWith_builtin (by show(false||(backTo dA (starEach es X.env)).any (·.1))=false;rw[n]<;>rfl) (Calls.evalArgs_plain ?_);exact bE d λus s2⟨vs,i,j,w,q2⟩=>hm pins s2 σ i x vs v us Q j f w q2
end
noncomputable def MtM(X:Cx)(id:String)(r:V->List V->Hp->VK->Prop):Prop:=∀(pins:List (Addr×Obj))(s:Shared)(σ:St)(H:Hp)(x:V)(xs:List V)(v:Value)(us:List Value)(Q:VK),Inv X pins σ H s->RelV x v->Vals xs us->r x xs H Q->wpAny (model X.prog X.w) X.A (call (.builtin id) (v::us)) (EP X pins σ Q) X.xe s
theorem Vals.one{x:V}{us:List Value}(h:Vals [x] us):∃u,us=[u]/\RelV x u:=by cases h with|cons r e=>cases e;exact⟨_,rfl,r⟩
theorem Vals.two{x y:V}{us:List Value}(h:Vals [x,y] us):∃u v,us=[u,v]/\RelV x u/\RelV y v:=by cases h with|cons r t=>cases t with|cons q e=>cases e;exact⟨_,_,rfl,r,q⟩
theorem Vals.zero:∀{us:List Value},Vals [] us->us=[]|_, .nil=>rfl
theorem Vals.dropLast{xs:List V}{us:List Value}(h:Vals xs us):Vals xs.dropLast us.dropLast:=by induction h with|nil=>exact .nil|cons r t a=>cases t with|nil=>exact .nil|cons q t'=>exact .cons r a
theorem Cz{d:Type}(l:List d):l.eraseIdx (l.length-1)=l.dropLast:=by
 induction l with
  |nil=>rfl
  |cons a r c=>
   cases r with
    |nil=>rfl
    |cons b r=>
     have e:(a::b::r).length-1=((b::r).length-1)+1:=by have h1:(a::b::r).length=r.length+2:=rfl;have h2:(b::r).length=r.length+1:=rfl;lia
     rw[e,List.eraseIdx_cons_succ,c];all_goals rfl
section
variable{X:Cx}{pins:List (Addr×Obj)}{σ:St}{H:Hp}{s:Shared}{l b:Addr}{xs ys zs:List V}
theorem Inv.TJ{its its':List Value}{n:Nat}{f:Array Value->Array Value}{t':Nat}(I:Inv X pins σ H s)(hH:H l=some (.lst xs))(e:s.heap.get? l=some {cls:= .type "list",data:= .seq its.toArray n})(a:f its.toArray=its'.toArray)(hv:Vals ys its')(d:ys.length<=sizeLine):Inv X pins σ (upd H l (.lst ys)) {s with heap:=s.heap.update l (Obj.mapSeq f),toks:=t'}:=by have q:=PySem.IsL.update e f;rw[a]at q;refine I.write (x:=l) (e:=l) (by rw[hH];exact trivial) (.inl rfl) (λg u hb c=>(iW s.heap (Obj.mapSeq f) (Ne.symm hb)).trans c) ⟨_,q⟩ ?_;exact⟨d,its',_,hv,q⟩
theorem Inv.IV{its:List Value}{t':Nat}(I:Inv X pins σ H s)(hv:Vals ys its)(a:ys.length<=sizeLine):Inv X pins σ (upd H s.heap.objs.size (.lst ys)) {s with heap:=s.heap.push {cls:= .type "list",data:= .seq its.toArray},toks:=t'}:=I.laid (λ_ _ q=>zQ01 _ q) (zQ04 _) ⟨a,its,0,hv,zQ12 _ rfl⟩
theorem Inv.fresh(I:Inv X pins σ H s):H s.heap.objs.size=none:=I.bT.fresh (zQ04 _)
theorem Inv.Gp(I:Inv X pins σ H s)(hH:H l=some (.lst xs)):xs.length<=sizeLine/\∃(its:List Value)(n:Nat),Vals xs its/\xs.length=its.length/\s.heap.get? l=some {cls:= .type "list",data:= .seq its.toArray n}:=by obtain⟨z,its,n,r,e⟩:=I.bT l _ hH;exact⟨z,its,n,r,r.length,e⟩
theorem Lu{n:Nat}(h:n<=sizeLine):Builtin.List.listTooLong n=false:=by unfold Builtin.List.listTooLong;exact decide_eq_false (by lia)
end
section
variable{X:Cx}
noncomputable def NX:V->List V->Hp->VK->Prop:=λx vs H Q=>∃l xs y,x= .ref l/\vs=[y]/\H l=some (.lst xs)/\xs.length<sizeLine/\Q .bA (upd H l (.lst (xs++[y])))
theorem dj:MtM X "list.append" NX:=by intro pins s σ H x vs v us Q I c b h;obtain⟨l,xs,y,rfl,rfl,hH,d,q⟩:=h;cases c;obtain⟨u,rfl,a⟩:=b.one;obtain⟨z,its,n,r,hl,e⟩:=I.Gp hH;refine call_meets F.slot_list_append ⟨_,e,rfl⟩ F.entry_list_append (F.args_list_append_2 _ _) (PySem.list_append l its.toArray n u (by rw[cC];lia)) ⟨e,?_⟩;refine⟨.bA,_,I.TJ (its':=its++[u]) hH e (by simp) (r.append (.cons a .nil)) ?_,rfl,q⟩;rw[cS,List.length_singleton];lia
noncomputable def Nm:V->List V->Hp->VK->Prop:=λx vs H Q=>∃l b xs a,x= .ref l/\vs=[.ref b]/\H l=some (.lst xs)/\H b=some (.lst a)/\xs.length+a.length<=sizeLine/\Q .bA (upd H l (.lst (xs++a)))
theorem nL:MtM X "list.extend" Nm:=by
 intro pins s σ H x vs v us Q I m k h;obtain⟨l,b,xs,w,rfl,rfl,hH,d,p,q⟩:=h;cases m;obtain⟨u,rfl,j⟩:=k.one;cases j;obtain⟨z,its,n,r,hl,e⟩:=I.Gp hH;obtain⟨t,a,g,i,o,c⟩:=I.Gp d;have hsz:its.toArray.size+a.toArray.size<=sizeLine:=by rw[cC,cC];lia
 have f:¬(!its.toArray.isEmpty&&Builtin.List.listTooLong (its.toArray.size+a.toArray.size))=true:=by rw[Lu hsz,Bool.and_false];exact eE
 refine call_meets F.slot_list_extend ⟨_,e,rfl⟩ F.entry_list_extend (F.args_list_extend_2 _ _) (AutoSeq1.list_extend_list_list_0 l its.toArray n b a.toArray g f (by rw[cC];lia) (by lia)) ⟨e,c,?_⟩;refine⟨.bA,_,I.TJ (its':=its++a) hH e (by simp) (r.append i) ?_,rfl,q⟩;rw[cS];lia
noncomputable def aa9:V->List V->Hp->VK->Prop:=λx vs H Q=>∃l xs y,x= .ref l/\vs=[]/\H l=some (.lst xs)/\xs[xs.length-1]?=some y/\Q y (upd H l (.lst xs.dropLast))
theorem Sv:MtM X "list.pop" aa9:=by
 intro pins s σ H x vs v us Q I i g h;obtain⟨l,xs,y,rfl,rfl,hH,c,q⟩:=h;cases i;have b:=g.zero;subst b;obtain⟨z,its,n,r,hl,e⟩:=I.Gp hH;obtain⟨u,a,f⟩:=r.get c;have d:its.toArray[its.toArray.size-1]?=some u:=by show its.toArray[its.length-1]?=some u;rw[<-Array.getElem?_toList,<-hl];exact a
 refine call_meets F.slot_list_pop ⟨_,e,rfl⟩ F.entry_list_pop (F.args_list_pop_1 _) (MeetsSeq.list_pop_last l its.toArray n u d (by rw[cC];lia)) ⟨e,?_⟩;refine⟨y,_,I.TJ (its':=its.dropLast) hH e ?_ r.dropLast ?_,f,q⟩;·show its.toArray.eraseIdxIfInBounds (its.toArray.size-1)=its.dropLast.toArray;rw[cC,List.eraseIdxIfInBounds_toArray,Cz]
 ·rw[List.length_dropLast];lia
noncomputable def aaL:R2:=λx y H Q=>∃l b xs a,x= .ref l/\y= .ref b/\H l=some (.lst xs)/\H b=some (.lst a)/\xs.length+a.length<=sizeLine/\∀p,H p=none->Q (.ref p) (upd H p (.lst (xs++a)))
theorem CW:jH X (binaryOp .Add) aaL:=by
 intro pins s σ H x y v u Q I i j h;obtain⟨l,b,xs,t,rfl,rfl,hH,f,m,q⟩:=h;cases i;cases j;obtain⟨z,its,n,r,hl,e⟩:=I.Gp hH;obtain⟨p,a,o,g,k,c⟩:=I.Gp f;refine PySem.P.add_list e c ?_ (by rw[cC,cC];lia);have d:its.toArray++a.toArray=(its++a).toArray:=by simp
 rw[d];exact⟨.ref _,_,I.IV (t':=s.toks) (r.append g) (by rw[cS];lia),rfl,q _ I.fresh⟩
end
section
variable{prog:Program}{w:World}{A:Around}{E:Value->Shared->Prop}{s:Shared}
end
section
variable{X:Cx}
end
section
variable{κ:Type}[DecidableEq κ]
noncomputable def fC(kvs:List (κ×V))(k:κ):Option V:=(kvs.find? λkv=>decide (kv.1=k)).map (·.2)
noncomputable def putK(kvs:List (κ×V))(k:κ)(v:V):List (κ×V):=if(kvs.any λkv=>decide (kv.1=k))=true then kvs.map (λkv=>if kv.1=k then(kv.1,v)else kv)else kvs++[(k,v)]
theorem mj{p:κ×V}{r:List (κ×V)}{k:κ}(e:p.1=k):fC (p::r) k=some p.2:=by simp[fC,List.find?_cons,e]
theorem rT{p:κ×V}{r:List (κ×V)}{k:κ}(e:¬p.1=k):fC (p::r) k=fC r k:=by simp[fC,List.find?_cons,e]
theorem rX(k:κ):∀kvs:List (κ×V),(kvs.any λkv=>decide (kv.1=k))=(fC kvs k).isSome
 |[]=>rfl
 |p::r=>by
  rw[List.any_cons];by_cases e:p.1=k;·simp only[mj e,decide_eq_true e,Bool.true_or,Option.isSome_some]
  ·rw[rT e,decide_eq_false e,Bool.false_or];exact rX k r
theorem oC(kvs:List (κ×V))(k:κ)(v:V):(putK kvs k v).length<=kvs.length+1:=by
 unfold putK;split;·rw[bD];lia
 ·rw[cS,b_,List.length_nil];lia
theorem mU.m7{o:Option V}{u:Option Value}(r:mU o u):o.isSome=u.isSome:=by
 cases o with
  |none=>cases u with|none=>rfl|some _=>exact(show False from r).elim
  |some _=>cases u with|none=>exact(show False from r).elim|some _=>rfl
theorem KV.val{kvs:List (κ×V)}{vs:List (κ×Value)}(r:KV kvs vs)(k:κ):mU (fC kvs k) (valueAt vs k):=by
 unfold KV at r;induction r with
  |nil=>exact True.intro
  |@cons p q ps c h t d=>
   obtain⟨h1,h2⟩:=h;by_cases e:p.1=k
   ·have a:q.1=k:=h1.symm.trans e;have b:valueAt (q::c) k=some q.2:=by simp[valueAt,List.find?_cons,a]
    rw[mj e,b];exact h2
   ·have a:¬q.1=k:=λz=>e (h1.trans z);have b:valueAt (q::c) k=valueAt c k:=by simp[valueAt,List.find?_cons,a]
    rw[rT e,b];exact d
theorem KV.any{kvs:List (κ×V)}{vs:List (κ×Value)}(r:KV kvs vs)(k:κ):(kvs.any λkv=>decide (kv.1=k))=vs.any λkv=>decide (kv.1=k):=by unfold KV at r;induction r with|nil=>rfl|cons h t a=>rw[List.any_cons,List.any_cons,a,h.1]
theorem KV.RL{kvs:List (κ×V)}{vs:List (κ×Value)}(r:KV kvs vs)(k:κ){y:V}{u:Value}(b:RelV y u):KV (kvs.map λkv=>if kv.1=k then(kv.1,y)else kv) (vs.map λkv=>if kv.1=k then(kv.1,u)else kv):=by
 unfold KV at r⊢;induction r with
  |nil=>exact .nil
  |@cons p q ps c h t a=>
   rw[cD,cD];refine .cons ?_ a;obtain⟨h1,h2⟩:=h;by_cases e:p.1=k;·rw[if_pos e,if_pos (h1.symm.trans e)];exact⟨h1,b⟩
   ·rw[if_neg e,if_neg (λz=>e (h1.trans z))];exact⟨h1,h2⟩
theorem KV.put{kvs:List (κ×V)}{vs:List (κ×Value)}(r:KV kvs vs)(k:κ){y:V}{u:Value}(a:RelV y u):KV (putK kvs k y) (stored vs k u):=by
 unfold putK stored;rw[r.any k];by_cases e:(vs.any λkv=>decide (kv.1=k))=true;·rw[if_pos e,if_pos e];exact r.RL k a
 ·rw[if_neg e,if_neg e];exact Paired.snoc r ⟨rfl,a⟩
theorem KV.length{kvs:List (κ×V)}{vs:List (κ×Value)}(r:KV kvs vs):kvs.length=vs.length:=Paired.length r
end
theorem Jv{P:Program}{w:World}{k:Key}{u:Value}(r:RelV (kV k) u):(dh P w).is k u=true:=by cases k with|inl i=>obtain⟨t,e⟩:=(show∃t,u=Value.int i t from r);subst e;exact BN P w i t|inr x=>obtain⟨t,e⟩:=(show∃t,u=Value.str x t from r);subst e;exact BM P w x t
theorem va{P:Program}{w:World}:∀{ks:List Key}{us:List Value},Vals (ks.map kV) us->ItemsAre (dh P w) ks us|[],_,r=>by rw[List.map_nil]at r;cases r;exact .nil|k::ks,_,r=>by rw[cD]at r;cases r with|cons h t=>exact .cons (Jv h) (va t)
noncomputable abbrev KT(H:Hp):List (List Key×V)->List (List Key×Addr×Value)->Prop:=Paired λp q=>p.1=q.1/\H q.2.1=some (.tup (p.1.map kV))/\RelV p.2 q.2.2
theorem KT.val{H:Hp}{kvs:List (List Key×V)}{xs:List (List Key×Addr×Value)}(r:KT H kvs xs)(k:List Key):mU (fC kvs k) ((atKey xs k).map (·.2)):=by
 induction r with
  |nil=>exact True.intro
  |@cons p q ps c h t d=>
   obtain⟨h1,_,h2⟩:=h;by_cases e:p.1=k
   ·have a:q.1=k:=h1.symm.trans e;have b:atKey (q::c) k=some q.2:=by simp[atKey,List.find?_cons,a]
    rw[mj e,b];exact h2
   ·have a:¬q.1=k:=λz=>e (h1.trans z);have b:atKey (q::c) k=atKey c k:=by simp[atKey,List.find?_cons,a]
    rw[rT e,b];exact d
theorem KT.RL{H:Hp}{kvs:List (List Key×V)}{xs:List (List Key×Addr×Value)}(r:KT H kvs xs)(k:List Key){y:V}{u:Value}(b:RelV y u):KT H (kvs.map λkv=>if kv.1=k then(kv.1,y)else kv) (xs.map (putAt k u)):=by
 induction r with
  |nil=>exact .nil
  |@cons p q ps c h t a=>
   rw[cD,cD];refine .cons ?_ a;obtain⟨h1,h2,h3⟩:=h;unfold putAt;by_cases e:p.1=k;·rw[if_pos e,if_pos (h1.symm.trans e)];exact⟨h1,h2,b⟩
   ·rw[if_neg e,if_neg (λz=>e (h1.trans z))];exact⟨h1,h2,h3⟩
theorem KT.put{H:Hp}{kvs:List (List Key×V)}{xs:List (List Key×Addr×Value)}(r:KT H kvs xs)(k:List Key){b:Addr}{y:V}{u:Value}(hb:H b=some (.tup (k.map kV)))(a:RelV y u):KT H (putK kvs k y) (storedH xs k b u):=by
 have e:(kvs.any λkv=>decide (kv.1=k))=(atKey xs k).isSome:=by rw[rX,(r.val k).m7,Option.isSome_map]
 unfold putK storedH;rw[e];by_cases q:(atKey xs k).isSome=true;·rw[if_pos q,if_pos q];exact r.RL k a
 ·rw[if_neg q,if_neg q];exact Paired.snoc r ⟨rfl,hb,a⟩
theorem KT.keeps{H H':Hp}{kvs:List (List Key×V)}{xs:List (List Key×Addr×Value)}(r:KT H kvs xs)(ht:∀b ys,H b=some (.tup ys)->H' b=some (.tup ys)):KT H' kvs xs:=Paired.Ss r λ_ _ z=>⟨z.1,ht _ _ z.2.1,z.2.2⟩
section
variable{P:Program}{w:World}{H:Hp}{h:Heap}{a:Addr}
theorem P4{u:HO}(ok:iZ P w H h)(e:Rd H a u):bV P w H h a u:=e.ok ok
theorem Pw{kvs:List (Key×V)}(ok:iZ P w H h)(e:Rd H a (.dK kvs)):kvs.length<=sizeLine/\(a==sysModules)=false/\∃vs,KV kvs vs/\h.DictOf (dh P w) a vs:=show bV P w H h a (.dK kvs)from P4 ok e
theorem UP{kvs:List (Key×V)}(ok:iZ P w H h)(e:H a=some (.dK kvs)):kvs.length<=sizeLine/\(a==sysModules)=false/\∃vs,KV kvs vs/\h.DictOf (dh P w) a vs:=Pw ok (.inl e)
theorem Cw{ks:List Key}(ok:iZ P w H h)(e:H a=some (.tup (ks.map kV))):(tupleKind (dh P w)).is h ks a:=by obtain⟨_,its,r,o,h1,h2,n,h3⟩:=(show bV P w H h a (.tup (ks.map kV))from ok a _ e);exact⟨o,its.toArray,n,h1,h2,h3,by simpa using va r⟩
theorem N8{kvs:List (List Key×V)}(ok:iZ P w H h)(e:Rd H a (.dT kvs)):kvs.length<=sizeLine/\(a==sysModules)=false/\∃xs,KT H kvs xs/\h.DictOfH (tupleKind (dh P w)) a xs:=by
 obtain⟨z,y,xs,r,o,es,ep,h1,h2,h3,h4,h5⟩:=(show bV P w H h a (.dT kvs)from P4 ok e);refine⟨z,y,xs,r,o,es,ep,h1,h2,h3,h4,λx b=>?_,h5⟩;have all:∀{l:List (List Key×V)}{m:List (List Key×Addr×Value)},KT H l m->∀x∈m,(tupleKind (dh P w)).is h x.1 x.2.1:=by
  intro l m q;induction q with
   |nil=>intro x b;exact nomatch b
   |@cons p q ps d hq t c=>
    intro x b;rcases List.mem_cons.mp b with e|b;·subst e;exact Cw ok (by rw[<-hq.1];exact hq.2.1)
    ·exact c x b
 exact all r x b
theorem Xi{kvs:List (List Key×V)}(ok:iZ P w H h)(e:H a=some (.dT kvs)):kvs.length<=sizeLine/\(a==sysModules)=false/\∃xs,KT H kvs xs/\h.DictOfH (tupleKind (dh P w)) a xs:=N8 ok (.inl e)
end
noncomputable def JP(H:Hp)(a:Addr)(y:V)(r:Option V):Prop:=(∃kvs k,Rd H a (.dK kvs)/\y=kV k/\r=fC kvs k)\/∃kvs k b,Rd H a (.dT kvs)/\y= .ref b/\H b=some (.tup (k.map kV))/\r=fC kvs k
noncomputable def Kd(H:Hp)(a:Addr)(y v:V)(H':Hp):Prop:=(∃kvs k,H a=some (.dK kvs)/\y=kV k/\kvs.length<sizeLine/\H'=upd H a (.dK (putK kvs k v)))\/∃kvs k b,H a=some (.dT kvs)/\y= .ref b/\H b=some (.tup (k.map kV))/\kvs.length<sizeLine/\H'=upd H a (.dT (putK kvs k v))
theorem JP.k{H:Hp}{a:Addr}{kvs:List (Key×V)}{k:Key}(e:H a=some (.dK kvs)):JP H a (kV k) (fC kvs k):= .inl ⟨kvs,k, .inl e,rfl,rfl⟩
theorem Kd.k{H:Hp}{a:Addr}{kvs:List (Key×V)}{k:Key}{v:V}(e:H a=some (.dK kvs))(hl:kvs.length<sizeLine):Kd H a (kV k) v (upd H a (.dK (putK kvs k v))):= .inl ⟨kvs,k,e,rfl,hl,rfl⟩
section
variable{X:Cx}{pins:List (Addr×Obj)}{σ:St}{H:Hp}{s:Shared}{a:Addr}{y v:V}{u r:Value}{o:Option V}{A:Around}{E:Value->Shared->Prop}
theorem Inv.big(I:Inv X pins σ H s):sysModules<s.heap.objs.size:=by have h:mainGlobals<s.heap.objs.size:=(I.mod.glob.keeps I.bk).lt;exact Nat.lt_trans (by decide) h
theorem Mp{Q:Value->Shared->Prop}(i:A.units+1<cLine)(I:Inv X pins σ H s)(g:JP H a y o)(d:RelV y u)(h:∀s',Inv X pins σ H s'->Q (.bool (!o.isSome)) s'):wpAny (model X.prog X.w) A (compareOp .NotIn u (.ref a)) Q E s:=by
 rcases g with⟨kvs,k,e,c,l⟩|⟨kvs,k,b,e,c,f,l⟩;·subst c;obtain⟨z,hd,vs,rel,dd⟩:=Pw I.bT e;refine wpAny_notIn_of (Jv d) hd dd.mapOf ?_;rw[<-(rel.val k).m7,<-l];exact h _ (I.tok _)
 ·subst c;cases(show u=Value.ref b from d);obtain⟨z,hd,xs,rel,dd⟩:=N8 I.bT e;refine wpAny_notIn_heap (tupleKind_room_in1 i) (Cw I.bT f) hd dd ?_;have q:=(rel.val k).m7;rw[Option.isSome_map]at q;rw[<-q,<-l];exact h _ (I.tok _)
theorem D3{h':Heap}{t':Nat}{ob:HO}(I:Inv X pins σ H s)(d:WM (H a))(c:Heap.SameBut a s.heap h')(he:∃q,h'.get? a=some q)(new:bV X.prog X.w (upd H a ob) h' a ob):Inv X pins σ (upd H a ob) {s with heap:=h',toks:=t'}:=I.write (x:=a) (e:=a) d (.inl rfl) (λb q hb z=>(c.2 b hb).trans z) he new
theorem Q7{P:Program}{w:World}{H':Hp}{h':Heap}{kvs:List (Key×V)}{vs:List (Key×Value)}(z:kvs.length<=sizeLine)(hd:(a==sysModules)=false)(rel:KV kvs vs)(dd:h'.DictOf (dh P w) a vs):bV P w H' h' a (.dK kvs):=⟨z,hd,vs,rel,dd⟩
theorem Gw{H':Hp}{Q:Unit->Shared->Prop}(x:A.units+1<cLine)(I:Inv X pins σ H s)(g:Kd H a y v H')(w:RelV y u)(t:RelV v r)(h:∀s',Inv X pins σ H' s'->Q () s'):wpAny (model X.prog X.w) A (setItem (.ref a) u r) Q E s:=by
 rcases g with⟨kvs,k,e,i,l,f⟩|⟨kvs,k,b,e,i,n,l,f⟩
 ·subst i f;obtain⟨z,hd,vs,rel,dd⟩:=UP I.bT e;have m:vs.length<=sizeLine:=by rw[<-rel.length];exact z
  have hl:(putK kvs k v).length<=sizeLine:=by have :=oC kvs k v;lia
  refine wpAny_setItem_pairs (hsz:=m) (Jv w) dd λh' d j=>h _ ?_;have he:∃q,h'.get? a=some q:=let⟨q,_,_,hq,_⟩:=d;⟨q,hq⟩;exact D3 I (by rw[e];exact True.intro) j he (Q7 hl hd (rel.put k t) d)
 ·subst i f;cases(show u=Value.ref b from w);obtain⟨z,hd,xs,rel,dd⟩:=Xi I.bT e;have m:xs.length<=sizeLine:=by rw[<-Paired.length rel];exact z
  have hl:(putK kvs k v).length<=sizeLine:=by have :=oC kvs k v;lia
  refine wpAny_setItem_heap (hsz:=m) (tupleKind_room_in1 x) (Cw I.bT n) dd λh' d j=>h _ ?_;obtain⟨q,es,ep,hq,h2,h3,h4,_,h5⟩:=d;refine D3 I (by rw[e];exact True.intro) j ⟨q,hq⟩ ⟨hl,hd,_,(rel.put k n t).keeps λc ys p=>?_,q,es,ep,hq,h2,h3,h4,h5⟩;rw[aP (Ye p e (λz=>nomatch z))];exact p
end
section
variable{X:Cx}{pins:List (Addr×Obj)}{σ:St}{H:Hp}{s:Shared}{a:Addr}{kvs:List (Key×V)}{k:Key}{u:Value}{A:Around}{E:Value->Shared->Prop}
end
def XQ(i:Expr):Prop:=∀b a,subscripted i false b a=operate [b,a] (getItem b a)
theorem M9{prog:Program}{w:World}{A:Around}{E:Value->Shared->Prop}{s:Shared}{env:Env}{value slice:Expr}{f:Pos}{T id:String}{Q:Value->Shared->Prop}(hl:typeLookup (.type T) "__getitem__"=pure (some (.builtin id)))(c:XQ slice)(h:wpAny (model prog w) A (eval value env) (λo s₁=>wpAny (model prog w) A (eval slice env) (λi s₂=>s₂.TypeIs o T/\wpAny (model prog w) A (getItem o i) Q E s₂) E s₁) E s):wpAny (model prog w) A (eval (.Subscript value slice f) env) Q E s:=by
 refine Subscript_ (wpAny_mono h (λo s₁ d=>wpAny_mono d (λi s₂ a=>?_) λ_ _ x=>x) λ_ _ x=>x);obtain⟨hT,a⟩:=a;unfold subscriptTail;refine zQ00 ?_;rw[getitemInPython_of_ne hT.not_modules];refine zQ00 (wpAny_specialOf hT hl ?_);have fin:wpAny (model prog w) A (subscripted slice false o i) (λr b=>wpAny (model prog w) A (letTemporaryGo value o r>>=λ_=>pure r) Q E b) E s₂:=by rw[c o i];exact wpAny_operating (wpAny_mono a (λr b e=>zQ00 (wpAny_letTemporaryGo (zQ02 e))) λ_ _ x=>x)
 first|exact zQ02 (zQ00 fin)|exact zQ00 (zQ02 (zQ00 fin))|exact zQ00 fin
noncomputable def Mi(ty d:TE):TE:=λσ H Q=>ty σ H λy c=>d σ c λx b=>∃a o,x= .ref a/\JP b a y o/\Q (.bl (!o.isSome)) b
noncomputable def Va(f ty g:TE):TS:=λD σ H=>g σ H λv c=>f σ c λx d=>ty σ d λy e=>∃a b,x= .ref a/\Kd e a y v b/\D.nx σ b
section
variable{X:Cx}{o i e value:Expr}{pos pos' QX:Pos}{td ty tv:TE}
theorem GI(k:X.A.units+1<cLine)(hi:PE X i ty)(ho:PE X o td):PC X .NotIn i o (Mi ty td):=by intro pins s σ H Q I h;refine bE (hi pins s σ H _ I h) λq s1⟨y,b,d,n,q1⟩=>bE (ho pins s1 σ b _ d q1) λu s2 p=>?_;obtain⟨x,c,f,m,a,l,ex,g,q2⟩:=p;subst ex;obtain rfl:u=Value.ref a:=m;exact Mp k f g n λr j=>⟨.bl (!l.isSome),c,j,rfl,q2⟩
theorem M4(n:X.A.units+1<cLine)(ho:PE X o td)(hi:PE X i ty)(hv:PE X value tv)(m:swapsWith value (some (.Subscript o i pos')) pos.line X.env=pure false):PS X (.Assign [.Subscript o i pos'] value pos) (Va td ty tv):=by intro pins s σ H D I h;refine wpAny_Assign_Subscript (bE (hv pins s σ H _ I h) λr s1⟨v,b,f,p,q1⟩=>bE (ho pins s1 σ b _ f q1) λu s2⟨x,c,j,q,q2⟩=>bE (hi pins s2 σ c _ j q2) λA B w=>?_) m;obtain⟨y,z,k,t,a,d,ex,g,q3⟩:=w;subst ex;obtain rfl:u=Value.ref a:=q;exact Gw n k g t p λC l=>⟨σ,d,l,q3⟩
end
theorem Jt{P:Program}{w:World}{H:Hp}(h:Heap)(hb:sysModules<h.objs.size):bV P w H (h.push {cls:= .type "dict",data:= .dict #[]}) h.objs.size (.dK []):=⟨zQ25 _,beq_eq_false_iff_ne.mpr (Ne.symm (zQ18 hb)),[], .nil,Heap.DictOf.new h⟩
noncomputable def Sa:TE:=λ_ H Q=>∀p,H p=none->Q (.ref p) (upd H p (.dK []))
section
variable{X:Cx}{pos:Pos}
theorem Ks:PE X (.Dict [] [] pos) Sa:=λpins s σ H Q I h=>wpAny_Dict_empty ⟨.ref s.heap.objs.size,_,I.laid (a:=s.heap.objs.size) (o:= .dK []) (t':=s.toks) (λ_ _ q=>zQ01 _ q) (zQ04 _) (Jt s.heap I.big),rfl,h _ (I.bT.fresh (zQ04 _))⟩
end
noncomputable def IP:List (TE×TE)->St->Hp->(List (V×V)->Hp->Prop)->Prop|[],_,H,Q=>Q [] H|(tk,d)::r,σ,H,Q=>tk σ H λx a=>d σ a λy b=>IP r σ b λps c=>Q ((x,y)::ps) c
noncomputable abbrev VV:List (V×V)->List (Value×Value)->Prop:=Paired λp q=>RelV p.1 q.1/\RelV p.2 q.2
noncomputable def G0(X:Cx)(a:Pos)(keys:List (Option Expr))(values:List Expr)(b:List (TE×TE)):Prop:=∀(pins:List (Addr×Obj))(s:Shared)(σ:St)(H:Hp)(Q:List (V×V)->Hp->Prop),Inv X pins σ H s->IP b σ H Q->wpAny (model X.prog X.w) X.A (evalPairs (pairTrees keys values X.env a)) (λvs s'=>∃ps H',Inv X pins σ H' s'/\VV ps vs/\Q ps H') X.xe s
structure M1(X:Cx)(o:Expr)(m:Str)(apos:Pos)(e:Expr)(dA:Pos):Prop where
 base:attributeBase o m X.env (eval o X.env)=eval o X.env
 LL:((backTo dA (starEach [e] X.env)).all (λx=>!x.1)&&(backToKw dA (keywordEach [] X.env)).all (λx=>x.1.isSome)&&decide (([e]:List Expr).length+([]:List Keyword).length+(if([]:List Keyword).isEmpty then 0 else 1)<30))=true
 line:(apos.endLine==dA.line)=true
 trees:backTo dA (starEach [e] X.env)=[(false,eval e X.env)]
structure M2(X:Cx)(o:Expr)(m:Str)(apos:Pos)(e f:Expr)(dA:Pos):Prop where
 base:attributeBase o m X.env (eval o X.env)=eval o X.env
 LL:((backTo dA (starEach [e,f] X.env)).all (λx=>!x.1)&&(backToKw dA (keywordEach [] X.env)).all (λx=>x.1.isSome)&&decide (([e,f]:List Expr).length+([]:List Keyword).length+(if([]:List Keyword).isEmpty then 0 else 1)<30))=true
 line:(apos.endLine==dA.line)=true
 trees:backTo dA (starEach [e,f] X.env)=[(false,eval e X.env),(false,eval f X.env)]
section
variable{X:Cx}{pins:List (Addr×Obj)}{σ:St}{H:Hp}{s:Shared}{a:Addr}{y d:V}{u r:Value}{o:Option V}{A:Around}{E:Value->Shared->Prop}
end
section
variable{X:Cx}{o e f:Expr}{apos dA:Pos}{td ty tx:TE}
end
section
variable{X:Cx}{pins:List (Addr×Obj)}{σ:St}{H:Hp}{s:Shared}{a:Addr}{kvs:List (Key×V)}{A:Around}{E:Value->Shared->Prop}
end
section
variable{X:Cx}{pins:List (Addr×Obj)}{σ:St}{H:Hp}{s:Shared}{a:Addr}{y:V}{u:Value}{A:Around}{E:Value->Shared->Prop}
end
end L2
end
section
namespace Att
open PySem PySem.W PySem.Calls PyProof.Rows
theorem pD{P:Params}{h:Heap}:∀(ns:List Int)(vs:List Value),WellAll P h vs (ns.map WData.int)->IntsAre vs ns:=by intro ns;induction ns with|nil=>intro vs w;rw[List.map_nil]at w;cases w;exact .nil|cons n ns c=>intro vs w;rw[cD]at w;cases w with|cons a b=>cases a;exact .cons _ _ (c _ b)
theorem Hv{l:OpenLaw}{n:Nat}(hn:l.most=some n){P:Params}{h:Heap}{args:List WData}{vals:List Value}(b:l.row.toRowW.claim.pre args=true)(f:WellAll P h vals args):∃a vs ns,vals=[Value.ref a]/\args=[WData.list (ns.map WData.int)]/\h.get? a=some {cls:= .type "list",data:= .seq vs.toArray}/\IntsAre vs ns/\ns.length<=n:=by
 have e:WShape.hasAll [] args [.list .int]=true:=(pre_splitW b).1;have hc:l.pre.holds [] {args:=args}=true:=(pre_splitW b).2;obtain⟨d,r,rfl,h1,h2⟩:=hasAllW_cons e;obtain rfl:=hasAllW_nil h2;obtain⟨xs,rfl,h3⟩:=hasW_list h1;obtain⟨ns,rfl⟩:=items_int h3;have hlen:ns.length<=n:=by
  unfold OpenLaw.pre at hc;have h4:(WTm.not (.lt (.lit (.int (n:Int))) (.len (.arg 0)))).holds [] {args:=[.list (ns.map .int)]}=true:=by have h4:=(holds_andW hc).1;rw[hn]at h4;exact h4
  have h5:=condW_of h4 (w_not (w_lt w_lit (w_len_list (w_arg rfl))));rw[bD]at h5;refine Nat.le_of_not_lt λq=>?_;have g:(n:Int)<((ns.length:Nat):Int):=by lia
  first|(rw[decide_eq_true g]at h5;exact absurd h5 (by decide))|(simp at h5;lia)
 cases f with|cons i j=>cases j;cases i with|list ho c=>exact⟨_,_,ns,rfl,rfl,ho,pD ns _ c,hlen⟩
theorem GL(l:OpenLaw)(args:List WData):l.row.toRowW.claim.post args (.bool true) args=true:=postW_of (r:=l.row.toRowW) (X:=(true==true)) (show WShape.has [] (.bool true) .bool=true by first|rfl|decide|simp[WShape.has,WShape.arms,WShape.armsAll]) (show(WTm.eq .res (.lit (.bool true))).value [] {args:=args,res:=some (.bool true),after:=args}=some (.bool (true==true))from w_eq_bool (w_res rfl) w_lit) rfl
theorem Cm{l:OpenLaw}{n:Nat}{q:Program}{loose:List Str}{XP:(Str->Option Value)->Heap->Prop}{YP:World->Heap->Prop}{d:DefRec}(hn:l.most=some n)(g:d.params.defaults=[])(call:∀(w:World)(bQ s₁:Shared)(mg mb:Str->Option Value)(fa:Addr)(o:Obj)(pm cd doc:Value)(a:Addr)(vs:List Value)(ns:List Int),Ground q loose [] XP w bQ mg mb s₁.heap->YP w s₁.heap->s₁.heap.get? fa=some o->o.data= .func (docDef d.name d.params d.body d.scope pm cd doc)->s₁.heap.CodeRec cd d.name->mg d.name=some (.ref fa)->s₁.heap.get? a=some {cls:= .type "list",data:= .seq vs.toArray}->IntsAre vs ns->ns.length<=n->s₁.gens=#[]->codeAny (model l.prog w) callerA (.call (.ref fa) ⟨[.ref a],[]⟩) (λr s'=>r= .ok (.ret (.bool true))/\OldK s₁.heap s'.heap/\s'.os=s₁.os/\AllBare s'.gens) s₁):WalkO q loose XP YP l.row.toRowW d [] (λf vs=>PySem.call f vs):=by intro w bQ s₁ mg mb G Y fa o pm cd doc c kV ho hd e b hmg h args vals as j m s k p;obtain rfl:c= .none:=Dflts.none b g;obtain rfl:kV= .none:=Dflts.noKw b;obtain⟨a,vs,ns,rfl,rfl,i,hints,hlen⟩:=Hv hn j k;refine enter_call (codeAny_mono (call w bQ s₁ mg mb fa o pm cd doc a vs ns G Y ho (fd_plain hd) e hmg i hints hlen h) λr s' hq=>?_);obtain⟨rfl,h2,h3,h4⟩:=hq;exact⟨.inl ⟨.bool true, .bool true,[],rfl,λ_=>rfl, .bool true,GL l _,λ_=>⟨List.Pairwise.nil,λ_ hm=>(nomatch hm)⟩⟩,h2,h3,h4⟩
section
variable{prog:Program}{w:World}{A:Around}{E:Value->Shared->Prop}{s:Shared}{K:Frag}
end
end Att
end
section
namespace L2
open PySem PySem.Spec PyProof.Rows
theorem hZ:∀{vs:List Value}{ns:List Int},IntsAre vs ns->Vals (ns.map V.int) vs|_,_, .nil=> .nil|_,_, .cons n t h=> .cons ⟨t,rfl⟩ (hZ h)
def QG(H:Hp):Prop:=∀b,H b=none\/∃o xs,H b=some (.DM o (.lst xs))
theorem KW{P:Program}{w:World}{K:PySem.W.Frag}{mg mb:Str->Option Value}{CX:qm}{k:Nat}{fa a:Addr}{fd:FuncData}{x:Str}{sp:Sp}{s₁:Shared}{vs:List Value}{ns:List Int}(KX:K.In s₁.heap)(D:s₁.heap.Ns mainGlobals mg)(hb:s₁.heap.Ns builtinsNs mb)(N:∀x:Str,x≠"__name__"->mb x=bootBuiltins x)(S:s₁.heap.NoLimit)(Q:RU mg s₁.heap)(R:s₁.gens=#[])(ha:s₁.heap.get? a=some {cls:= .type "list",data:= .seq vs.toArray})(hi:IntsAre vs ns)(hl:ns.length<=sizeLine)(hr:cR k callerA)(F:∀base:Heap,K.In base->base.Ns mainGlobals mg->pB P w K mg base CX k fa fd [x] sp)(O:∀(s:Shared)(u:Value),BindsTo s fd ⟨[u],[]⟩ [(x,u)])(U:∀H:Hp,QG H->aZ K H a (ns.map V.int)->sp [.ref a] H (λv _=>v= .bl true) λ_ _ _=>False)(J:∀H e s',CX callerA.handled [] H s₁ (λ_ _ _=>False) e s'->False):codeAny (model P w) callerA (.call (.ref fa) ⟨[.ref a],[]⟩) (λr s'=>r= .ok (.ret (.bool true))/\OldK s₁.heap s'.heap/\s'.os=s₁.os/\AllBare s'.gens) s₁:=by
 have E:=hZ hi;have W:=hi.length;have core:∀H:Hp,QG H->aZ K H a (ns.map V.int)->iZ P w H s₁.heap->(∀b,H b≠none->b=a)->(H a≠none->K.lookup a=none)->codeAny (model P w) callerA (.call (.ref fa) ⟨[.ref a],[]⟩) (λr s'=>r= .ok (.ret (.bool true))/\OldK s₁.heap s'.heap/\s'.os=s₁.os/\AllBare s'.gens) s₁:=by
  intro H C hS bT t L;have j:∀{b:Addr}{o:Obj},s₁.heap.get? b=some o->H b=none->(tY s₁.heap H).get? b=some o:=λe n=>B8 e n;have Y:∀{b:Addr}{o:Obj}{es:Array DictEntry}{ep:Nat},s₁.heap.get? b=some o->o.data= .dict es ep->H b=none:=λ{b o es ep}e d=>by cases q:H b with|none=>rfl|some u=>have c:b=a:=t b (by rw[q];simp);subst c;rw[ha]at e;cases e;have d':Data.seq vs.toArray _=Data.dict es ep:=d;cases d'
  have i:∀{b:Addr}{m:Str->Option Value},s₁.heap.Ns b m->(tY s₁.heap H).Ns b m:=λ{b m}⟨o,es,ep,e,d,r⟩=>⟨o,es,ep,j e (Y e d),d,r⟩;have B:K.In (tY s₁.heap H):=λb o e=>j (KX b o e) (by cases q:H b with|none=>rfl|some u=>have c:b=a:=t b (by rw[q];simp);subst c;rw[L (by rw[q];simp)]at e;cases e);have G:∀{m:Str->Option Value},RU m s₁.heap->RU m (tY s₁.heap H):=λ{m}⟨bm,ob,g,l,p,A⟩=>⟨bm,ob,g,l,j p (by cases q:H bm with|none=>rfl|some u=>have c:bm=a:=t bm (by rw[q];simp);subst c;rw[ha]at p;cases p;exact absurd (show Value.type "list"=Value.type "module"from A.1) (by simp)),A⟩;have M:Mod K mg (tY s₁.heap H):=⟨B,i D,⟨mb,i hb,N⟩,let⟨X,h1,h2⟩:=S;⟨X,i h1,h2⟩,G Q⟩;have I:Ck P w K mg (tY s₁.heap H) callerA [] s₁ H:=⟨rfl,M,λb o e=>Es e,Nat.le_of_eq (uW _ _),trivial,λb hb=>absurd (show b∈([]:List Addr)from hb) (by simp),bT, .of_eq R, .inl rfl⟩;refine codeAny_mono ((F _ B (i D)).run callerA [] s₁ H ⟨[.ref a],[]⟩ [.ref a] [.ref a] _ _ hr I (O s₁ (.ref a)) (.cons rfl .nil) (U H C hS)) λr s' h=>?_;cases r with
   |error e=>exact(J H e s' h).elim
   |ok fl=>
    cases fl with
     |next=>exact False.elim h
     |brk=>exact False.elim h
     |cont=>exact False.elim h
     |ret u=>
      obtain⟨v,H',os,bare,un,T,r',q⟩:=h;have Z:v= .bl true:=q;subst Z;obtain rfl:u=Value.bool true:=r';refine⟨rfl,OldK.of_keep λb o e=>?_,os,bare⟩;cases q:H b with
       |none=>exact un.keep b o e q (by intro z;exact absurd (show b∈([]:List Addr)from z) (by simp)) (by simp)
       |some u=>
        rcases C b with z|⟨ob,xs,z⟩;·rw[q]at z;cases z
        ·have z2:=un.rG b ob _ z;obtain⟨g,_⟩:=bT b _ z;obtain⟨l,_⟩:=T b _ z2;rw[e]at g;cases g;exact l
 cases y:K.lookup a with
  |some o=>have e:=KX a o y;rw[ha]at e;cases e;refine core (λ_=>none) (λ_=> .inl rfl) (.inr ⟨_,vs.toArray,_,y,rfl,rfl,rfl,by rw[cC,W];exact hl,by simpa using E⟩) (λb u z=>by have f:(none:Option HO)=some u:=z;cases f) (λb z=>absurd rfl z) λz=>absurd rfl z
  |none=>
   refine core (λb=>if b=a then some (.DM {cls:= .type "list",data:= .seq vs.toArray} (.lst (ns.map V.int)))else none) (λb=>?_) (.inl (.inr ⟨{cls:= .type "list",data:= .seq vs.toArray},if_pos rfl⟩)) (λb u z=>?_) (λb z=>?_) λ_=>y
   ·by_cases hb:b=a;·exact .inr ⟨_,_,if_pos hb⟩
    ·exact .inl (if_neg hb)
   ·by_cases hb:b=a;·have f:=(if_pos hb).symm.trans z;cases f;subst hb;exact⟨ha,by rw[bD];exact hl,vs,_,E,ha⟩
    ·have f:=(if_neg hb).symm.trans z;cases f
   ·by_cases hb:b=a;·exact hb
    ·exact absurd (if_neg hb) z
noncomputable abbrev KOf{K:PySem.W.Frag}{h:Heap}(_:K.In h):PySem.W.Frag:=K
theorem My{l:PySem.W.OpenLaw}{n k:Nat}{q:Program}{loose:List Str}{XP:(Str->Option Value)->Heap->Prop}{YP:World->Heap->Prop}{d:DefRec}{K:Params->PySem.W.Frag}{CX:World->qm}{sp:World->Sp}{x:Str}(hn:l.most=some n)(p:n<=sizeLine)(j:d.params.defaults=[])(hr:cR k callerA)(i:∀(w:World)(h:Heap),YP w h->(K w.params).In h)(F:∀(w:World)(mg:Str->Option Value)(fa:Addr)(h:Heap),(K w.params).In h->h.Ns mainGlobals mg->mg d.name=some (.ref fa)->∃fd:FuncData,(∀(s:Shared)(u:Value),BindsTo s fd ⟨[u],[]⟩ [(x,u)])/\∀base:Heap,(K w.params).In base->base.Ns mainGlobals mg->pB l.prog w (K w.params) mg base (CX w) k fa fd [x] (sp w))(t:∀(w:World)(H:Hp)(a:Addr)(ns:List Int),ns.length<=n->QG H->aZ (K w.params) H a (ns.map V.int)->sp w [.ref a] H (λv _=>v= .bl true) λ_ _ _=>False)(b:∀(w:World)(H:Hp)(s:Shared)(e:Value)(s':Shared),CX w callerA.handled [] H s (λ_ _ _=>False) e s'->False):PySem.W.WalkO q loose XP YP l.row.toRowW d [] (λf vs=>PySem.call f vs):=by refine Att.Cm hn j λw bQ s₁ mg mb fa o pm cd doc a vs ns G Y ho hd y hmg r hints hlen m=>?_;have KX:=i w _ Y;obtain⟨fd,hb,c⟩:=F w mg fa _ KX G.T.g hmg;exact KW KX G.T.g G.T.b G.T.builtins G.T.nolimit G.T.bmain m r hints (cw hlen p) hr c hb (λH g hS=>t w H a ns hlen g hS) λH e s'=>b w H s₁ e s'
noncomputable def inClass(s:Stmt)(j:Nat):Stmt:=match s with| .ClassDef _ _ _ body _ _ _ _ _ _ _=>body.getD j (.Pass ⟨0,0,0,0⟩)|_=> .Pass ⟨0,0,0,0⟩
noncomputable def cQ(s:Stmt):Arguments:=match s with| .FunctionDef _ a _ _ _ _ _ _ _ _=>a|_=>{posonlyargs:=[],args:=[],vararg:=none,kwonlyargs:=[],kw_defaults:=[],kwarg:=none,defaults:=[]}
noncomputable def bG(s:Stmt):List Stmt:=match s with| .FunctionDef _ _ b _ _ _ _ _ _ _=>b|_=>[]
noncomputable def ak(s:Stmt):Scope:=match s with| .FunctionDef _ _ _ _ _ _ sc _ _ _=>sc|_=>{kind:= .function,names:=[],isGenerator:=false,isCoroutine:=false}
noncomputable abbrev bx:qm:=λ_ _ _ _ _ _ _=>False
noncomputable abbrev E0:XK:=λ_ _ _=>False
theorem aQ{X:Cx}:Passes bx X E0:=λ_ _ _ _ _ _ _ h=>h.elim
structure Nj(K:PySem.W.Frag)(x qual:Str)(st:Stmt)(f:Addr)(fd:FuncData):Prop where
 ex:∃(oc:Value)(od:Option Addr)(kV doc pm:Value)(an:Option Addr)(bS ct:Value)(HI:Array (Option Value)),fd=PySem.W.fnOf x qual (cQ st) (bG st) (ak st) .none kV doc pm an bS ct/\K.lookup f=some ⟨oc,od, .func fd,HI⟩/\PySem.W.codeIn K bS qual=true
 kp:PySem.W.keepIn K (.ref f)=true
section
variable{P:Program}{w:World}{K:PySem.W.Frag}{mg:Str->Option Value}{base:Heap}
theorem Nj.ok{x qual:Str}{st:Stmt}{f:Addr}{fd:FuncData}{N ps:List Str}{k:Nat}{sp:Sp}(F:Nj K x qual st f fd)(S:aG N ps (ak st))(len:∀vs H Q E,sp vs H Q E->vs.length=ps.length)(a:∀(bS:Value)(A:Around)(outer:List Env)(s:Shared)(H:Hp)(vs:List V)(Q:VK)(E:XK),cR k (A.deeper (envOfC qual (ak st) s.heap.objs.size f bS))->sp vs H Q E->∃t,kM (dX bx P w K mg base N qual (ak st) f bS A outer s H E).JT (bG st) t/\t {nx:=λ_ H'=>Q .bA H',rt:=Q} (start N vs) H):pB P w K mg base bx (k+1) f fd ps sp:=by obtain⟨oc,od,kV,doc,pm,an,bS,ct,HI,rfl,d,b⟩:=F.ex;refine J7 d b S len λA outer s H vs Q E hr c=>?_;obtain⟨t,h,q⟩:=a bS A outer s H vs Q E hr c;exact⟨t,h.JT,q⟩
theorem Nj.binds{x qual:Str}{st:Stmt}{f:Addr}{fd:FuncData}{ps:List Str}(F:Nj K x qual st f fd)(h:∀(kV doc pm:Value)(an:Option Addr)(bS ct:Value)(us:List Value),us.length=ps.length->bindArgs (PySem.W.fnOf x qual (cQ st) (bG st) (ak st) .none kV doc pm an bS ct) ⟨us,[]⟩=pure (ps.zip us)):Binds K fd ps []:=by obtain⟨oc,od,kV,doc,pm,an,bS,ct,HI,rfl,b,a⟩:=F.ex;exact .all (h kV doc pm an bS ct)
theorem fD{x qual:Str}{st:Stmt}{f:Addr}{oc:Value}{od an:Option Addr}{HI:Array (Option Value)}{kV doc pm bS ct:Value}(l:K.lookup f=some ⟨oc,od, .func (PySem.W.fnOf x qual (cQ st) (bG st) (ak st) .none kV doc pm an bS ct),HI⟩)(c:PySem.W.codeIn K bS qual=true)(k:PySem.W.keepIn K (.ref f)=true):Nj K x qual st f (PySem.W.fnOf x qual (cQ st) (bG st) (ak st) .none kV doc pm an bS ct):=⟨⟨oc,od,kV,doc,pm,an,bS,ct,HI,rfl,l,c⟩,k⟩
end
theorem vy{A:Around}{k:Nat}(hr:cR k A):A.units+1<cLine:=Nat.lt_of_le_of_lt (Nat.add_le_add_left (by decide:1<=64) _) hr.units
section
variable{X:Cx}
theorem pv(i:Nat){x:Str}{c:Pos}(a:X.N[i]?=some x:=by rfl)(hv:YY X.env.scope x:=by first|exact Or.inl rfl|exact Or.inr (Or.inl rfl)|exact Or.inr (Or.inr rfl))(hd:(x==("__debug__":Str))=false:=by decide)(b:(x==("__classdict__":Str))=false:=by decide):PE X (.Name x c) (Dh i):=RF a hv hd b
end
theorem bR{A B:Prop}(h:B):if false=true then A else B:=by rw[if_neg eE];exact h
theorem bj{A B:Prop}(h:A):if true=true then A else B:=by rw[if_pos rfl];exact h
theorem bL{c A B:Prop}[Decidable c](h1:c->A)(h2:¬c->B):if c then A else B:=by
 by_cases h:c;·rw[if_pos h];exact h1 h
 ·rw[if_neg h];exact h2 h
def aE(H H':Hp):Prop:=∀b o,H b=some o->H' b=some o
theorem aE.refl(H:Hp):aE H H:=λ_ _ h=>h
theorem aE.trans{H d e:Hp}(a:aE H d)(b:aE d e):aE H e:=λc o h=>b c o (a c o h)
theorem aE.free{H H':Hp}(e:aE H H'){l:Addr}(h:H' l=Option.none):H l=Option.none:=by cases q:H l with|none=>rfl|some o=>rw[e l o q]at h;cases h
section
variable{X:Cx}
end
section
variable{κ:Type}[DecidableEq κ]
theorem MZ{kvs:List (κ×V)}{k:κ}{v:V}(h:fC kvs k=some v):k∈kvs.map (·.1):=by
 have q:(kvs.any λkv=>decide (kv.1=k))=true:=by rw[rX,h];all_goals rfl
 obtain⟨p,a,e⟩:=List.any_eq_true.mp q;exact List.mem_map.mpr ⟨p,a,of_decide_eq_true e⟩
end
end L2
end
section
namespace L3
open PySem PySem.Spec PyProof.Rows L2
noncomputable def dM(env:Env):List (Str×NameKind)->List (Str×Addr)->List (Str×Addr)|[],cs=>cs|(n,k)::r,cs=>dM env r (if(k== .free)=true then(n,(env.cells.lookup n).getD 0)::cs else cs)
theorem sZ{env:Env}{scope:Scope}(h:∀x∈scope.names,x.2= .free->∃c,env.cells.lookup x.1=some c):closureFor scope env=pure (dM env scope.names []):=by
 unfold closureFor;have go:∀(l:List (Str×NameKind))(cs:List (Str×Addr)),(∀x∈l,x.2= .free->∃c,env.cells.lookup x.1=some c)->(forIn l cs λ(x:Str×NameKind)(r:List (Str×Addr))=>if(x.2== .free)=true then(do let a<-cellOf env x.1;pure (ForInStep.yield ((x.1,a)::r)))else pure (ForInStep.yield r):Sem (List (Str×Addr)))=pure (dM env l cs):=by
  intro l;induction l with
   |nil=>intro cs _;rfl
   |cons x l d=>
    intro cs hl;obtain⟨n,k⟩:=x;have hr:∀y∈l,y.2= .free->∃c,env.cells.lookup y.1=some c:=λy f=>hl y (ck _ f);rw[List.forIn_cons,dM];by_cases b:(k==NameKind.free)=true
    ·obtain⟨c,hc⟩:=hl (n,k) bI (by simpa using b);have hc:env.cells.lookup n=some c:=hc;have e:cellOf env n=pure c:=by unfold cellOf;rw[hc]
     simp only[b,if_true,e,pure_bind,hc,Option.getD_some];exact d _ hr
    ·simp only[b,if_false,pure_bind];exact d _ hr
 have q:=go scope.names [] h;simp only[bind_pure];exact q
theorem mQ{env:Env}{x:Str}:∀(l:List (Str×NameKind))(cs:List (Str×Addr)),(∃c,cs.lookup x=some c)->∃c,(dM env l cs).lookup x=some c
 |[],_,h=>h
 |(n,k)::r,cs,h=>by
  rw[dM];refine mQ r _ ?_;by_cases a:(k==NameKind.free)=true;·rw[if_pos a,jk];cases x==n with|true=>exact⟨_,rfl⟩|false=>exact h
  ·rw[if_neg a];exact h
theorem je{env:Env}{x:Str}:∀(l:List (Str×NameKind))(cs:List (Str×Addr)),(x,NameKind.free)∈l->∃c,(dM env l cs).lookup x=some c
 |[],_,h=>by cases h
 |(n,k)::r,cs,h=>by
  rw[dM];rcases List.mem_cons.mp h with e|h;·cases e;refine mQ r _ ?_;rw[if_pos (by decide),jk,beq_self_eq_true];exact⟨_,rfl⟩
  ·exact je r _ h
theorem j3{env:Env}:∀(l:List (Str×NameKind))(cs:List (Str×Addr)),(∀x∈l,x.2= .free->∃c,env.cells.lookup x.1=some c)->(∀x c,cs.lookup x=some c->env.cells.lookup x=some c)->∀x c,(dM env l cs).lookup x=some c->env.cells.lookup x=some c
 |[],_,_,h=>h
 |(n,k)::r,cs,hl,h=>by
  rw[dM];refine j3 r _ (λy g=>hl y (ck _ g)) λx c e=>?_;by_cases b:(k==NameKind.free)=true
  ·rw[if_pos b,jk]at e;cases d:x==n with
    |true=>
     rw[d]at e;obtain rfl:x=n:=by simpa using d
     obtain⟨f,a⟩:=hl (x,k) bI (by simpa using b);have a:env.cells.lookup x=some f:=a;rw[a]at e⊢;exact e
    |false=>rw[d]at e;exact h x c e
  ·rw[if_neg b]at e;exact h x c e
theorem lX{env:Env}:∀{l:List (Str×NameKind)}{x:Str},l.lookup x=some .free->(l.map λ(p:Str×NameKind)=>if(p.2==NameKind.free&&env.scope.kind== .function&&env.kindOf p.1==some .cell)then(p.1,NameKind.cell)else(p.1,p.2)).lookup x=some .cell\/(l.map λ(p:Str×NameKind)=>if(p.2==NameKind.free&&env.scope.kind== .function&&env.kindOf p.1==some .cell)then(p.1,NameKind.cell)else(p.1,p.2)).lookup x=some .free
 |[],_,h=>by simp at h
 |(n,k)::r,x,h=>by
  have b:=@lX env r x;rw[jk]at h;rw[cD];by_cases hc:(k==NameKind.free&&env.scope.kind== .function&&env.kindOf n==some .cell)=true;·simp only[hc,if_true];rw[jk];cases a:x==n with|true=>exact .inl rfl|false=>rw[a]at h;exact b h
  ·simp only[hc,Bool.false_eq_true,if_false];rw[jk];cases a:x==n with|true=>rw[a]at h;exact .inr h|false=>rw[a]at h;exact b h
theorem sJ{env:Env}:∀{l:List (Str×NameKind)}{x:Str},(∀y∈l,y.2≠ .cell)->((l.map λ(p:Str×NameKind)=>if(p.2==NameKind.free&&env.scope.kind== .function&&env.kindOf p.1==some .cell)then(p.1,NameKind.cell)else(p.1,p.2)).lookup x=some .cell\/(l.map λ(p:Str×NameKind)=>if(p.2==NameKind.free&&env.scope.kind== .function&&env.kindOf p.1==some .cell)then(p.1,NameKind.cell)else(p.1,p.2)).lookup x=some .free)->(x,NameKind.free)∈l
 |[],_,_,h=>by simp at h
 |(n,k)::r,x,hl,h=>by
  have b:=@sJ env r x λy c=>hl y (ck _ c);rw[cD]at h;by_cases hc:(k==NameKind.free&&env.scope.kind== .function&&env.kindOf n==some .cell)=true
  ·simp only[hc,if_true]at h;rw[jk]at h;cases a:x==n with
    |true=>
     obtain rfl:x=n:=by simpa using a
     have :k= .free:=by simp only[bF]at hc;simpa using hc.1.1
     rw[this];exact bI
    |false=>rw[a]at h;exact ck _ (b h)
  ·simp only[hc,Bool.false_eq_true,if_false]at h;rw[jk]at h;cases a:x==n with
    |true=>
     rw[a]at h;obtain rfl:x=n:=by simpa using a
     rcases h with h|h;·exact absurd (Option.some.inj h) (hl (x,k) bI)
     ·have :k= .free:=Option.some.inj h;rw[this];exact bI
    |false=>rw[a]at h;exact ck _ (b h)
noncomputable abbrev CF(X:Cx)(scope:Scope)(C:Addr):Env:=compEnvC scope (dM X.env scope.names []) C X.env
noncomputable abbrev du(X:Cx)(N':List Str)(scope:Scope)(a:Shared)(b:Hp)(fp:List Addr):Cx:={X with N:=N',bQ:=a,H₀:=b,env:=CF X scope a.heap.objs.size,outer:=X.stack,stack:=X.stack,ex:=fp,fn:=λ_=>false,pn:=X.pn,xe:=λ_ _=>False}
noncomputable def gE(own:Nat)(fr:List Nat)(σ:L2.St):L2.St:=List.replicate own none++fr.map λi=>(σ[i]?).join
structure lV(X:Cx)(N':List Str)(own:Nat)(fr:List Nat)(scope:Scope):Prop where
 kind:scope.kind= .function
 wj:∀y∈scope.names,y.2≠ .cell
 loc:∀x∈scope.names,x.2= .local->scope.names.lookup x.1=some .local
 free:∀x∈scope.names,x.2= .free->X.env.kindOf x.1=some .cell\/X.env.kindOf x.1=some .free
 len:N'.length=own+fr.length
 fr:∀j i,fr[j]?=some i->∃x,N'[own+j]?=some x/\X.N[i]?=some x/\scope.names.lookup x=some .free
theorem se{fs ex:List Addr}{H H':Hp}{h h1 h2:Heap}{C:Addr}(u:Un fs ex H H' h h1)(d:h.objs.size<=C)(c:Heap.SameBut C h1 h2):Un fs ex H H' h h2:=by
 have ne:∀b o,h.get? b=some o->b≠C:=λb o e=>zQ18 (gc (zQ09 e) d);refine⟨λb o e n hb a=>(c.2 b (ne b o e)).trans (u.keep b o e n hb a),λb o e n hb a=>?_,u.free,λb o e a=>?_,u.ue,u.rG,u.ur⟩;·obtain⟨sl,q⟩:=u.slot b o e n hb a;exact⟨sl,(c.2 b (ne b o e)).trans q⟩
 ·obtain⟨o',q⟩:=u.there b o e a;exact⟨o',(c.2 b (ne b o e)).trans q⟩
theorem Az{P:Program}{w:World}{H:Hp}{h h2:Heap}{C:Addr}(k:iZ P w H h)(a:H C=none)(d:Heap.SameBut C h h2):iZ P w H h2:=λb ob e=>by
 refine(k b ob e).wt (λc f hc q=>(d.2 c ?_).trans q) (λ_ q=>q) λ_ _ q=>q;rintro rfl;rcases hc with rfl|hc;·rw[a]at e;cases e
 ·rw[a]at hc;cases hc
noncomputable def Bc(Y:Cx)(a:List Expr)(b:TT):Prop:=∀(pins:List (Addr×Obj))(s:Shared)(σ:L2.St)(H:Hp)(Q:Bool->Hp->Prop),Inv Y pins σ H s->b σ H Q->wpAny (model Y.prog Y.w) Y.A (forIn a true λc r=>if r=true then do let ok<-isTrue c Y.env (eval c Y.env);pure (ForInStep.yield ok)else pure (ForInStep.yield r)) (TP Y pins σ Q) Y.xe s
noncomputable def Ir:TT:=λ_ H Q=>Q true H
theorem gH{Y:Cx}:Bc Y [] Ir:=λ_ _ _ H _ I h=>wpAny_tests_nil ⟨H,I,h⟩
theorem ye{Y:Cx}{c:Expr}{t:TT}(h:PT Y c t):Bc Y [c] t:=λpins s σ H Q I hq=>wpAny_tests_one (h pins s σ H Q I hq)
section
variable{prog:Program}{w:World}{A:Around}{R:Result->Shared->Prop}{s:Shared}
theorem nU{b target iter:Expr}{d:List Expr}{scope:Scope}{j:Pos}{it a:Value}{env:Env}(J:Nat->Shared->Prop)(turn:∀n s,J n s->wpAny (model prog w) A (pyNext it) (λr s₁=>match r with|none=>R (.ok .next) s₁|some v=>wpAny (model prog w) A (letOwnedTupleGo target it v) (λ_ bQ=>wpAny (model prog w) A (assign target env v) (λ_ s₂=>wpAny (model prog w) A (forIn d true λc r=>if r=true then do let ok<-isTrue c env (eval c env);pure (ForInStep.yield ok)else pure (ForInStep.yield r)) (λok e=>if ok=true then wpAny (model prog w) A (eval b env) (λx k=>wpAny (model prog w) A (call (.builtin "list.append") [a,x]) (λ_ l=>∃m,m<n/\J m l) (λ_ _=>False) k) (λ_ _=>False) e else∃m,m<n/\J m e) (λ_ _=>False) s₂) (λ_ _=>False) bQ) (λ_ _=>False) s₁) (λ_ _=>False) s)(n:Nat)(h:J n s):codeAny (model prog w) A (.compLoop (.ListComp b [⟨target,iter,d,0⟩] scope j) 0 it a env) R s:=by refine codeAny_loop rfl J (λn s t=>?_) n h;show wpAny _ A ((compTurn (.ListComp b [⟨target,iter,d,0⟩] scope j) 0 it a env).onRaise (λx=>do noteFrame x env;theTreesLotGoes x)) _ _ s;refine wpAny_noted ?_;rw[compTurn_list];have no:∀{o:Type}{m:Sem o}{Q:o->Shared->Prop}{p:Value->Shared->Prop}{s':Shared},wpAny (model prog w) A m Q (λ_ _=>False) s'->wpAny (model prog w) A m Q p s':=λhm=>wpAny_mono hm (λ_ _ q=>q) λ_ _ f=>f.elim;refine zQ00 (wpAny_standAt (zQ00 (no (wpAny_mono (turn n s t) (λr s₁ g=>?_) λ_ _ h'=>h'))));cases r with|none=>exact zQ02 g|some v=>refine zQ00 (no (wpAny_mono g (λ_ bQ h₀=>zQ00 (no (wpAny_mono h₀ (λ_ s₂ u=>zQ00 (no (wpAny_mono u (λok e i=>?_) λ_ _ h'=>h'))) λ_ _ h'=>h'))) λ_ _ h'=>h'));cases ok with|false=>exact zQ02 ⟨rfl,i⟩|true=>exact zQ00 (zQ00 (no (wpAny_mono i (λx k y=>zQ00 (no (wpAny_mono y (λ_ l z=>zQ02 (zQ02 ⟨rfl,z⟩)) λ_ _ h'=>h'))) λ_ _ h'=>h')))
end
def Own(own:Nat)(g:TG):Prop:=∀v σ H Q,g v σ H Q->g v σ H λa b=>Q a b/\a.length=σ.length/\∀i,own<=i->a[i]?=σ[i]?
theorem cU{own i:Nat}(h:i<own):Own own (sj i):=λv σ H Q q=>⟨q,by simp,λj hj=>List.getElem?_set_ne (by lia)⟩
noncomputable def OM(own:Nat)(fr:List Nat)(o:TI)(g:TG)(n:TT)(l:TE):TE:=λσ H Q=>o σ H λJ d=>∀p,d p=none->∃W:Nat->Nat->List V->Hp->Prop,(∃m,W 0 m [] (upd d p (.lst [])))/\∀i m a b,W i m a b->(J.stop i b/\Q (.ref p) b)\/(J.go i b/\∀x e,J.An i b x e->g x (gE own fr σ) e λj k=>n j k λok f=>if ok=true then l j f λv h=>h p=some (.lst a)/\a.length<sizeLine/\∃c,c<m/\W (i+1) c (a++[v]) (upd h p (.lst (a++[v])))else∃c,c<m/\W (i+1) c a f)
theorem Fw{X:Cx}{scope:Scope}{N':List Str}{own:Nat}{fr:List Nat}{pins:List (Addr×Obj)}{σ:L2.St}{f:Hp}{d:Shared}{h4:Heap}{fp:List Addr}{t4:Nat}{m:Str->Option Value}(S:lV X N' own fr scope)(a:Inv X pins σ f d)(g:∀b∈fp,lq X pins f b/\b<d.heap.objs.size)(keep:∀b o,d.heap.get? b=some o->h4.get? b=some o)(F:h4.Ns d.heap.objs.size m):Inv (du X N' scope d f fp) [] (gE own fr σ) f {d with heap:=h4,toks:=t4}:=by
 have D:∀x∈scope.names,x.2= .free->∃c,X.env.cells.lookup x.1=some c:=λx s e=>a.ok.has x.1 (S.free x s e);have snd:∀x c,(dM X.env scope.names []).lookup x=some c->X.env.cells.lookup x=some c:=j3 _ _ D λx c e=>by simp at e
 have ok:(du X N' scope d f fp).Ok:=by
  refine⟨a.ok.mod,S.kind,a.ok.glob,a.ok.blt,zQ04 _,λx y c h l=>a.ok.inj x y c (snd x c h) (snd y c l),λx s=>je _ _ (sJ S.wj s),λx c z=>(by cases z),a.ok.hd,a.ok.frames, .inl rfl,λb hb=>⟨zQ18 (g b hb).2,λx c e=>(g b hb).1.2.2.2.2.1 x c (snd x c e)⟩,a.bs,cw a.ok.HJ a.sz,λb o e hb=>?_,λb hb H=>?_,a.stack,a.zW⟩
  ·rcases(g b hb).1.2.2.2.1 with z|z;·exact a.ok.Di b o e z
   ·exact absurd (gc (zQ09 e) a.ok.HJ) (Nat.not_lt.mpr z)
  ·rcases List.mem_cons.mp (a.jq b H)with z|z;·exact(g b hb).1.2.1 z
   ·exact(g b hb).1.2.2.1 z
 refine⟨ok,rfl,a.bare,Un.kept keep,⟨m,F,λi x v h1 h2 h3=>?_⟩,λx c e=>?_,a.bT.fresh (zQ04 _),λx c e=>a.g9 x c (snd x c e),λp G=>?_,a.bT.kept keep,?_⟩
 ·have h1:N'[i]?=some x:=h1;have hi:¬i<own:=λz=>by unfold gE at h2;rw[List.getElem?_append_left (by simpa using z),List.getElem?_replicate]at h2;split at h2<;>cases h2
  obtain⟨j,rfl⟩:∃j,i=own+j:=⟨i-own,by lia⟩;unfold gE at h2;rw[List.getElem?_append_right (by simp),List.length_replicate,Nat.add_sub_cancel_left,gs]at h2;cases n:fr[j]? with
   |none=>rw[n]at h2;cases h2
   |some k=>
    rw[n]at h2;have h2:(σ[k]?).join=some v:=Option.some.inj h2;have I:σ[k]?=some (some v):=by cases q:σ[k]? with|none=>rw[q]at h2;cases h2|some M=>rw[q]at h2;exact congrArg some h2
    obtain⟨N,h,l,A⟩:=S.fr j k n;rw[h1]at h;cases h;have mem:=PySem.mem_of_lookup A;have B:=S.free _ mem rfl;obtain⟨L,K,E⟩:=a.loc;obtain⟨u,r,look⟩:=E k x v l I (.inr B);rcases look with⟨q,_⟩|⟨q,c,hc,o,ho,hd⟩
    ·rcases B with z|z;·have z:X.env.kindOf x=some .cell:=z;rw[z]at q;cases q
     ·have z:X.env.kindOf x=some .free:=z;rw[z]at q;cases q
    ·obtain⟨C,t⟩:=je (env:=X.env) scope.names [] mem;have w:=snd x C t;rw[hc]at w;cases w;exact⟨u,r, .inr ⟨lX A,c,t,o,keep _ _ ho,hd⟩⟩
 ·obtain⟨v,o,ho,hd⟩:=a.cell x c (snd x c e);exact⟨v,o,keep _ _ ho,hd⟩
 ·obtain⟨q1,q2,q3,q4,J⟩:=a.pin p (List.mem_append_left _ (by simpa using G));refine⟨keep _ _ q1,q2,zQ18 (zQ09 q1),λz=>?_,J⟩;rcases List.mem_cons.mp (a.jq _ z)with z|z;·exact q3 z
  ·exact q4 z
 ·show(gE own fr σ).length=N'.length;unfold gE;rw[S.len,cS,List.length_replicate,bD]
theorem eO{X:Cx}{tg iter G:Expr}{O:List Expr}{scope:Scope}{pos:Pos}{wi:TI}{g:TG}{tt:TT}{te:TE}{N':List Str}{own:Nat}{fr:List Nat}(hc:X.calm=true)(S:lV X N' own fr scope)(hi:PI X tg iter wi)(ho:Own own g)(hg:∀A w fp,PG (du X N' scope A w fp) tg g)(hf:∀A w fp,Bc (du X N' scope A w fp) O tt)(he:∀A w fp,PE (du X N' scope A w fp) G te)(hs:∀x,foldedSetIterable iter X.env x=pure x:=by intro _;rfl):PE X (.ListComp G [⟨tg,iter,O,0⟩] scope pos) (OM own fr wi g tt te):=by
 intro pins s σ H Q I h;have LA:∀x∈scope.names,x.2= .free->∃c,X.env.cells.lookup x.1=some c:=λx hx e=>I.ok.has x.1 (S.free x hx e);rw[eval_ListComp];refine wpAny_comprehension_free (use:=none) rfl hs (sZ LA) S.kind S.loc ?_;refine bE (hi pins s σ H _ I h) λv s1 h1=>bE h1 λZh s2 h2=>?_;obtain⟨it,fp,tn,J,d,e,I2,T,Sl,f2,h2⟩:=h2;subst e;refine jV (hd:=by size_fits) (wpAny_newFunctionEnv S.wj (by intro y hy;simp at hy) (λh4 M N=>?_) S.kind);have pj:=I2.bT.fresh (zQ04 s2.heap.objs.size);obtain⟨W,⟨m0,w0⟩,turn⟩:=h2 _ pj;have C:Inv X pins σ (upd d s2.heap.objs.size (.lst [])) {s2 with heap:=s2.heap.push {cls:= .type "list",dict:=none,data:= .seq ([]:List Value).toArray},toks:=s2.toks}:=I2.IV .nil (zQ25 _);have Xe:∀b∈fp,b<s2.heap.objs.size:=λb hb=>let⟨o,e,_⟩:=T.obj _ _ Sl b hb;zQ09 e;have up2:∀b o,s2.heap.get? b=some o->∀ob:Obj,(s2.heap.push ob).get? b=some o:=λb o e ob=>zQ01 _ e;have VI:(s2.heap.push {cls:= .type "list",dict:=none,data:= .seq ([]:List Value).toArray}).objs.size=s2.heap.objs.size+1:=zQ27 ..;revert M N C;generalize e3:s2.heap.push {cls:= .type "list",dict:=none,data:= .seq ([]:List Value).toArray}=h3 at VI⊢;intro M N C;have keep:∀b o,h3.get? b=some o->h4.get? b=some o:=λb o e=>(N.2 b (zQ18 (zQ09 e))).trans (zQ01 _ e);have K:∀b∈fp,lq X pins (upd d s2.heap.objs.size (.lst [])) b/\b<h3.objs.size:=λb hb=>by refine⟨⟨?_,(f2 b hb).2⟩,by rw[VI];exact Nat.lt_succ_of_lt (Xe b hb)⟩;rw[aP (zQ18 (Xe b hb))];exact(f2 b hb).1
 have D:=Fw (t4:=s2.toks+([]:List (Str×Value)).length) S C K keep M;have V:tn 0 h4:=T.keep _ _ _ Sl λb hb o e=>keep b o (by rw[<-e3];exact up2 b o e _);have U:∀{H':Hp},(∀b∈fp,H' b=none)->∀b∈fp,lq (du X N' scope {s2 with heap:=h3,toks:=s2.toks} (upd d s2.heap.objs.size (.lst [])) fp) [] H' b:=λ{H'}hn b hb=>⟨hn b hb,zQ18 (K b hb).2,λz=>D.ok.Gn b hb z, .inl hb,(D.ok.YL b hb).2,λp hp=>(f2 b hb).2.2.2.2.2 p (List.mem_append_left _ (by simpa using hp))⟩;have loop:∀E:Shared,Inv (du X N' scope {s2 with heap:=h3,toks:=s2.toks} (upd d s2.heap.objs.size (.lst [])) fp) [] (gE own fr σ) (upd d s2.heap.objs.size (.lst [])) E->tn 0 E.heap->codeAny (model X.prog X.w) X.A (.compLoop (.ListComp G [⟨tg,iter,O,0⟩] scope pos) 0 (.ref it) (.ref s2.heap.objs.size) (CF X scope h3.objs.size)) (compPost (model X.prog X.w) X.A X.xe none (EP X pins σ Q) (.ref s2.heap.objs.size) h3.objs.size) E:=by
  intro E Ix tx;refine nU (λn s'=>∃i l H',Inv (du X N' scope {s2 with heap:=h3,toks:=s2.toks} (upd d s2.heap.objs.size (.lst [])) fp) [] (gE own fr σ) H' s'/\tn i s'.heap/\(∀b∈fp,H' b=none)/\W i n l H') ?_ m0 ⟨0,[],_,Ix,tx,λb hb=>(K b hb).1.1,w0⟩;rintro n s5⟨i,l,B,I5,Mb,Rh,w5⟩;rcases turn i n l B w5 with⟨stop,qn⟩|⟨go,step⟩;·refine bE (T.done (du X N' scope {s2 with heap:=h3,toks:=s2.toks} (upd d s2.heap.objs.size (.lst [])) fp) rfl rfl rfl hc i [] s5 _ B (λ_ _=>False) I5 (U Rh) Mb stop) λr s6 a=>?_;obtain⟨hr,m⟩:=a;subst hr;obtain⟨m6,hm6,_⟩:=id m.loc;refine⟨m6,hm6,λh7 hs7=>⟨.ref s2.heap.objs.size,B,?_,rfl,qn⟩⟩;exact C.KG (s':={s6 with heap:=h7}) (ch:=fp) m.os (se m.base (zQ04 _) hs7) (Az m.bT m.free hs7) m.bare λb hb=>⟨(f2 b hb).2.2.2.1,(f2 b hb).2.1,(f2 b hb).2.2.2.2.1,(f2 b hb).2.2.2.2.2⟩
  ·refine bE (T.item (du X N' scope {s2 with heap:=h3,toks:=s2.toks} (upd d s2.heap.objs.size (.lst [])) fp) rfl rfl rfl hc i [] s5 _ B (λ_ _=>False) I5 (U Rh) Mb go) λr s6 a=>?_;obtain⟨u,hr,h6⟩:=a;subst hr;refine bE h6 λ_ s7 a=>?_;obtain⟨x,Z,I7,r7,y7,R,fr7⟩:=a;have I7':=I7.pinned (U fr7) (T.obj _ _ R);refine bE (hg _ _ _ _ s7 _ Z x u _ I7' r7 (ho _ _ _ _ (step x Z y7))) λ_ s8 a=>?_;obtain⟨F,H8,I8,q8,l8,k8⟩:=a;have again:∀{k:Hp}{t:Shared},Inv (du X N' scope {s2 with heap:=h3,toks:=s2.toks} (upd d s2.heap.objs.size (.lst [])) fp) ([]++nD fp s7.heap) F k t->Inv (du X N' scope {s2 with heap:=h3,toks:=s2.toks} (upd d s2.heap.objs.size (.lst [])) fp) [] (gE own fr σ) k t/\tn (i+1) t.heap/\∀b∈fp,k b=none:=λ{k t}q=>by
    refine⟨q.jz.weak l8.symm λj v e=>?_,T.keep _ _ _ R λb hb o e=>(q.pin (b,o) (kx _ (kx _ (eD hb e)))).1,λb hb=>?_⟩
    ·have hj:own<=j:=by refine Nat.le_of_not_lt λz=>?_;unfold gE at e;rw[List.getElem?_append_left (by simpa using z),List.getElem?_replicate]at e;split at e<;>cases e
     rw[k8 j hj];exact e
    ·obtain⟨o,e,_⟩:=T.obj _ _ R b hb;exact(q.pin (b,o) (kx _ (kx _ (eD hb e)))).2.1
   refine bE (hf _ _ _ _ s8 F H8 _ I8 q8) λok t a=>?_;obtain⟨k,q,q9⟩:=a;cases ok with|false=>obtain⟨P,L,w9⟩:=q9;obtain⟨a1,a2,a3⟩:=again q;exact⟨P,L,i+1,l,k,a1,a2,a3,w9⟩|true=>refine bE (he _ _ _ _ t F k _ q q9) λy LR a=>?_;obtain⟨v,Y,I10,XF,Si,QS,P,L,w10⟩:=a;refine bE (dj _ LR F Y (.ref s2.heap.objs.size) [v] (.ref s2.heap.objs.size) [y] (λ_ Hn=>Hn=upd Y s2.heap.objs.size (.lst (l++[v]))) I10 rfl (.cons XF .nil) ⟨_,l,v,rfl,rfl,Si,QS,rfl⟩) λ_ Y9 a=>?_;obtain⟨_,Zo,I11,_,e11⟩:=a;subst e11;obtain⟨a1,a2,a3⟩:=again I11;exact⟨P,L,i+1,l++[v],_,a1,a2,a3,w10⟩
 exact codeAny_compStart_list (loop _ D V) (wpAny_mono (T.self X.A 0 _ (λv s'=>v= .ref it/\s'=_) (λ_ _=>False) V ⟨rfl,rfl⟩) (λv s'⟨e1,e2⟩=>by subst e1;subst e2;exact loop _ D V) λ_ _ f=>f.elim)
def Nx(n i:Nat)(P:Prop):Prop:=∃a,a<n-i/\a=n-(i+1)/\i+1<=n/\P
theorem nx{n i:Nat}{P:Prop}(h:i<n)(p:P):Nx n i P:=⟨n-(i+1),by lia,rfl,h,p⟩
theorem pV{J:It}{p:Addr}{l:Hp}{g:TG}{q:TT}{o:TE}{b:L2.St}{Q:VK}(n:Nat)(Pv:Nat->List V->Hp->Prop)(r:Pv 0 [] (upd l p (.lst [])))(s:∀i a c,i<n->Pv i a c->J.go i c/\∀x d,J.An i c x d->g x b d λj k=>q j k λok e=>if ok=true then o j e λv f=>f p=some (.lst a)/\a.length<sizeLine/\Nx n i (Pv (i+1) (a++[v]) (upd f p (.lst (a++[v]))))else Nx n i (Pv (i+1) a e))(hd:∀a c,Pv n a c->J.stop n c/\Q (.ref p) c):∃W:Nat->Nat->List V->Hp->Prop,(∃m,W 0 m [] (upd l p (.lst [])))/\∀i m a c,W i m a c->(J.stop i c/\Q (.ref p) c)\/(J.go i c/\∀x d,J.An i c x d->g x b d λj k=>q j k λok e=>if ok=true then o j e λv f=>f p=some (.lst a)/\a.length<sizeLine/\∃h,h<m/\W (i+1) h (a++[v]) (upd f p (.lst (a++[v])))else∃h,h<m/\W (i+1) h a e):=by
 refine⟨λi m a H=>m=n-i/\i<=n/\Pv i a H,⟨n,by simp,zQ25 _,r⟩,?_⟩;rintro i m a c⟨rfl,hi,w⟩;by_cases hlt:i<n;·exact .inr (s i a c hlt w)
 ·obtain rfl:i=n:=by lia
  exact .inl (hd a c w)
end L3
end
section
namespace L3
open PySem L2
section
variable{prog:Program}{w:World}{A:Around}{E:Value->Shared->Prop}{s:Shared}
end
structure nc(z TI TO i1 i2:Nat)(f1 f2:List Nat):Prop where
 TIz:TI≠z
 TOz:TO≠z
 TITO:TI≠TO
 TI1:TI≠i1
 TI2:TI≠i2
 TO1:TO≠i1
 TO2:TO≠i2
 i1z:i1≠z
 i2z:i2≠z
 zf1:z∉f1
 zf2:z∉f2
 Tf1:TO∉f1
 Tf2:TO∉f2
 aar:i2∉f1
 abe:i1∉f2
section
variable{prog:Program}{w:World}{A:Around}{E:Value->Shared->Prop}{s:Shared}
variable{z TI TO i1 i2:Addr}{f1 f2:List Addr}{n1 n2:Nat}{P1 P2:Nat->Value->Prop}{S1 S2:Nat->Heap->Prop}
theorem Hy{i:Nat}{a b:Value}{Q:Value->Shared->Prop}(D1:Draws prog w A i1 f1 n1 P1 S1)(G:Draws prog w A i2 f2 n2 P2 S2)(d:nc z TI TO i1 i2 f1 f2)(r:IsZip s.heap z TI TO .none)(U:IsPair s.heap TI (.ref i1) (.ref i2))(V:IsPair s.heap TO a b)(s1:S1 i s.heap)(s2:S2 i s.heap)(l1:i<n1)(l2:i<n2)(W:∀x y h' tk,P1 i x->P2 i y->IsZip h' z TI TO (rawInt s.heap.objs.size)->IsPair h' TO x y->S1 (i+1) h'->S2 (i+1) h'->IsPair h' s.heap.objs.size x y->(∀c o,c≠z->c≠TO->c≠i1->c≠i2->s.heap.get? c=some o->h'.get? c=some o)->Q (.ref s.heap.objs.size) {s with heap:=h',toks:=tk}):wpAny (model prog w) A (Builtin.«zip.__next__» ⟨[.ref z],[]⟩) (λfin s'=>∃v,fin= .done (.ret v)/\Q v s') E s:=by
 have u:∀{k:Nat}{h h':Heap}{c:Addr},c∉f1->Heap.SameBut c h h'->S1 k h->S1 k h':=λ{k h h' c}hc sb st=>D1.frame _ _ _ st λq hq o e=>(sb.2 q λz=>hc (z▸hq)).trans e;have B:∀{k:Nat}{h h':Heap}{c:Addr},c∉f2->Heap.SameBut c h h'->S2 k h->S2 k h':=λ{k h h' c}hc sb st=>G.frame _ _ _ st λq hq o e=>(sb.2 q λz=>hc (z▸hq)).trans e;show wpAny (model prog w) _ (field (.ref z) 2>>=_) _ _ _;refine zQ00 (dD r rfl (x:= .bool false) rfl ?_);show wpAny (model prog w) _ (field (.ref z) 3>>=_) _ _ _;refine zQ00 (dD r rfl (x:= .ref TI) rfl ?_);refine zQ00 (wpAny_seqItems U rfl ?_);show wpAny (model prog w) _ (Builtin.SmallTypes.ownedTupleIsFree (.ref z)>>=_) _ _ _;refine zQ00 ?_;unfold Builtin.SmallTypes.ownedTupleIsFree;refine zQ00 (dD r rfl (x:= .none) rfl (zQ02 ?_));simp only[if_true];refine zQ00 (wpAny_rule ?_);refine zQ00 (dD r rfl (x:= .ref TO) rfl ?_);refine zQ00 (wpAny_setField_rec r (by simp) λX K j=>?_);replace K:IsZip X z TI TO .ellipsis:=K;refine zQ00 ?_;simp only[List.zipIdx_cons,List.zipIdx_nil,List.forIn_cons,List.forIn_nil];refine zQ00 (zQ00 (wpAny_onRaise ?_));show wpAny (model prog w) _ (Builtin.SmallTypes.nextOf (.ref i1)>>=_) _ _ _;refine zQ00 (D1.item i _ _ _ l1 (u d.zf1 j s1) λx Y t2 px q2 l=>zQ02 ?_);have P:IsPair Y TO a b:=l.extBut _ _ d.TO1 (j.extBut _ _ d.TOz V);refine zQ00 (wpAny_seqItems P rfl ?_);refine zQ00 (wpAny_updateSeq_pair P λZ J m=>?_);replace J:IsPair Z TO x b:=J;refine zQ00 (wpAny_letGo (zQ02 ?_));refine zQ00 (zQ00 (wpAny_onRaise ?_));show wpAny (model prog w) _ (Builtin.SmallTypes.nextOf (.ref i2)>>=_) _ _ _;refine zQ00 (G.item i _ _ _ l2 (B d.Tf2 m (B d.abe l (B d.zf2 j s2))) λy k4 t4 py q4 n=>zQ02 ?_);have R:IsPair k4 TO x b:=n.extBut _ _ d.TO2 J;refine zQ00 (wpAny_seqItems R rfl ?_);refine zQ00 (wpAny_updateSeq_pair R λf D p=>?_);replace D:IsPair f TO x y:=D;refine zQ00 (wpAny_letGo (zQ02 (zQ02 ?_)));refine zQ00 (wpAny_seqItems D rfl ?_);refine zQ00 (wpAny_newTuple ?_);have sz:f.objs.size=s.heap.objs.size:=by rw[p.1,n.1,m.1,l.1,j.1]
 have T:IsZip f z TI TO .ellipsis:=p.extBut _ _ d.TOz.symm (n.extBut _ _ d.i2z.symm (m.extBut _ _ d.TOz.symm (l.extBut _ _ d.i1z.symm K)));have kp:∀c o,c≠z->c≠TO->c≠i1->c≠i2->s.heap.get? c=some o->f.get? c=some o:=λc o g t H I e=>p.extBut _ _ t (n.extBut _ _ I (m.extBut _ _ t (l.extBut _ _ H (j.extBut _ _ g e))));have q1':S1 (i+1) f:=u d.Tf1 p (u d.aar n (u d.Tf1 m q2));have q2':S2 (i+1) f:=B d.Tf2 p q4;have O:z<f.objs.size:=zQ09 T;show wpAny (model prog w) _ (Builtin.SmallTypes.ownedTupleHandOut (.ref z) (.ref f.objs.size)>>=_) _ _ _;refine zQ00 ?_;unfold Builtin.SmallTypes.ownedTupleHandOut;have z6:IsZip (f.push {cls:= .type "tuple",data:= .seq #[x,y]}) z TI TO .ellipsis:=zQ01 _ T;refine zQ00 (wpAny_setField_rec z6 (by simp) λk7 L M=>?_);replace L:IsZip k7 z TI TO (rawInt f.objs.size):=L;refine wpAny_setField_rec L (by simp) λC F N=>?_;replace F:IsZip C z TI TO (rawInt f.objs.size):=F;have up:∀c o,c≠z->f.get? c=some o->C.get? c=some o:=λc o g e=>N.extBut _ _ g (M.extBut _ _ g (zQ01 _ e));have S:IsPair C f.objs.size x y:=N.extBut _ _ (Nat.ne_of_gt O) (M.extBut _ _ (Nat.ne_of_gt O) (zQ12 _ rfl));rw[sz]at F S;refine zQ02 ⟨_,rfl,?_⟩;show Q (.ref f.objs.size) _;rw[sz];exact W x y C _ px py F (up _ _ d.TOz D) (D1.frame _ _ _ q1' λq hq o e=>up q o (λz=>d.zf1 (z▸hq)) e) (G.frame _ _ _ q2' λq hq o e=>up q o (λz=>d.zf2 (z▸hq)) e) S λc o g t H I e=>up c o g (kp c o g t H I e)
theorem GN{a b:Value}{Q:Fin->Shared->Prop}(D1:Draws prog w A i1 f1 n1 P1 S1)(h:nc z TI TO i1 i2 f1 f2)(d:IsZip s.heap z TI TO .none)(r:IsPair s.heap TI (.ref i1) (.ref i2))(D:IsPair s.heap TO a b)(s1:S1 n1 s.heap)(t:∀h' e,(∀c o,c≠z->c≠TO->c≠i1->c≠i2->s.heap.get? c=some o->h'.get? c=some o)->(∃o,h'.get? e=some o/\o.cls= .type "StopIteration")->E (.ref e) {s with heap:=h'}):wpAny (model prog w) A (Builtin.«zip.__next__» ⟨[.ref z],[]⟩) Q E s:=by
 show wpAny (model prog w) _ (field (.ref z) 2>>=_) _ _ _;refine zQ00 (dD d rfl (x:= .bool false) rfl ?_);show wpAny (model prog w) _ (field (.ref z) 3>>=_) _ _ _;refine zQ00 (dD d rfl (x:= .ref TI) rfl ?_);refine zQ00 (wpAny_seqItems r rfl ?_);show wpAny (model prog w) _ (Builtin.SmallTypes.ownedTupleIsFree (.ref z)>>=_) _ _ _;refine zQ00 ?_;unfold Builtin.SmallTypes.ownedTupleIsFree;refine zQ00 (dD d rfl (x:= .none) rfl (zQ02 ?_));simp only[if_true];refine zQ00 (wpAny_rule ?_);refine zQ00 (dD d rfl (x:= .ref TO) rfl ?_);refine zQ00 (wpAny_setField_rec d (by simp) λu g i=>?_);replace g:IsZip u z TI TO .ellipsis:=g;refine zQ00 ?_;simp only[List.zipIdx_cons,List.zipIdx_nil,List.forIn_cons,List.forIn_nil];refine zQ00 (zQ00 (wpAny_onRaise ?_));show wpAny (model prog w) _ (Builtin.SmallTypes.nextOf (.ref i1)>>=_) _ _ _;refine zQ00 (D1.done _ _ _ (D1.frame _ _ _ s1 λq hq o e=>(i.2 q λy=>h.zf1 (y▸hq)).trans e) λv e j he=>?_);obtain⟨oe,f,m⟩:=he;have n:IsZip v z TI TO .ellipsis:=j _ _ h.i1z.symm g;have C:e≠z:=λq=>by subst q;rw[n]at f;cases f;simp at m
 refine wpAny_setField_rec n (by simp) λB _ k=>t B e (λc o l _ p _ q=>k.extBut _ _ l (j _ _ p (i.extBut _ _ l q))) ⟨oe,k.extBut _ _ C f,m⟩
theorem Hb{i:Nat}{a b:Value}{Q:Option Value->Shared->Prop}(D1:Draws prog w A.in1 i1 f1 n1 P1 S1)(e:Draws prog w A.in1 i2 f2 n2 P2 S2)(f:nc z TI TO i1 i2 f1 f2)(d:IsZip s.heap z TI TO .none)(g:IsPair s.heap TI (.ref i1) (.ref i2))(h:IsPair s.heap TO a b)(s1:S1 i s.heap)(s2:S2 i s.heap)(k:i<n1)(l:i<n2)(j:∀x y h' tk,P1 i x->P2 i y->IsZip h' z TI TO (rawInt s.heap.objs.size)->IsPair h' TO x y->S1 (i+1) h'->S2 (i+1) h'->IsPair h' s.heap.objs.size x y->(∀c o,c≠z->c≠TO->c≠i1->c≠i2->s.heap.get? c=some o->h'.get? c=some o)->Q (some (.ref s.heap.objs.size)) {s with heap:=h',toks:=tk}):wpAny (model prog w) A (pyNext (.ref z)) Q E s:=by have ty:s.TypeIs (.ref z) "zip":=⟨_,d,rfl⟩;unfold pyNext;refine zQ00 (wpAny_attempt (wpAny_callSpecial?_slot (name:=Str.ofString "__next__") ty F.slot_zip_next (gP F.slot_zip_next ty F.entry_zip_next ?_ (F.args_zip_next_1 _))));exact Hy D1 e f d g h s1 s2 k l λx y h' tk a1 a2 a3 a4 a5 a6 a7 a8=>zQ02 (j x y h' tk a1 a2 a3 a4 a5 a6 a7 a8)
theorem Gg{a b:Value}{Q:Option Value->Shared->Prop}(D1:Draws prog w A.in1 i1 f1 n1 P1 S1)(f:nc z TI TO i1 i2 f1 f2)(d:IsZip s.heap z TI TO .none)(g:IsPair s.heap TI (.ref i1) (.ref i2))(h:IsPair s.heap TO a b)(s1:S1 n1 s.heap)(i:∀h',(∀c o,c≠z->c≠TO->c≠i1->c≠i2->s.heap.get? c=some o->h'.get? c=some o)->Q none {s with heap:=h'}):wpAny (model prog w) A (pyNext (.ref z)) Q E s:=by have ty:s.TypeIs (.ref z) "zip":=⟨_,d,rfl⟩;unfold pyNext;refine zQ00 (wpAny_attempt (wpAny_callSpecial?_slot (name:=Str.ofString "__next__") ty F.slot_zip_next (gP F.slot_zip_next ty F.entry_zip_next (GN D1 f d g h s1 λh' e j he=>?_) (F.args_zip_next_1 _))));obtain⟨o,ho,hc⟩:=he;refine zQ00 (wpAny_isInstance (T:="StopIteration") (b:=true) ⟨o,ho,hc⟩ isSubtype_stop (zQ02 (i _ j)))
end
section
variable{prog:Program}{w:World}{A:Around}{E:Value->Shared->Prop}{s:Shared}
end
end L3
end
section
namespace L3
open PySem PySem.Spec PyProof.Rows L2
section
variable{X:Cx}{pins:List (Addr×Obj)}{σ:L2.St}{H:Hp}{s:Shared}{h':Heap}
theorem Gk{t':Nat}{ch:List Addr}{T:Addr}{o:HO}(I:Inv X pins σ H s)(k:∀b ob,b∉ch->s.heap.get? b=some ob->h'.get? b=some ob)(a:∀b∈ch,lq X pins H b)(hT:s.heap.objs.size<=T)(new:bV X.prog X.w (upd H T o) h' T o):Inv X pins σ (upd H T o) {s with heap:=h',toks:=t'}:=by
 have hn:H T=none:=I.bT.fresh hT;have d:∀b u,H b=some u->b∉ch:=λb u e z=>by rw[(a b z).1]at e;cases e
 refine I.step (g':=s.gens) (d':=s.drawn) (ch:=ch) (λb hb=>⟨(a b hb).2.2.2.1,(a b hb).2.1,(a b hb).2.2.2.2.1,(a b hb).2.2.2.2.2⟩) (λb ob _ _ hc e _=>k b ob hc e) (λb ob _ _ hc e _=>⟨ob.slots,k b ob hc e⟩) (λb ob _ e n=>by rw[aP (zQ18 (gc (zQ09 e) hT))];exact n) (λb ob hc e=>⟨ob,k b ob hc e⟩) (λb xs e=>by rw[aP (ay e hn)];exact e) (λb ob u e=>by rw[aP (ay e hn)];exact e) (λb ps e=>(by rw[aP (ay e hn),e])) (λm hm=>?_) (λb u e=>?_) I.bare;·obtain⟨ob,es,ep,ho,r⟩:=hm;exact⟨ob,es,ep,k _ ob (λz=>(a _ z).2.1 rfl) ho,r⟩
 ·by_cases hb:b=T;·subst hb;rw[ah]at e;cases e;exact new
  ·rw[aP hb]at e;refine(I.bT b u e).wt (λc v hc q=>k c v ?_ q) (λc q=>by rw[aP (ay q hn)];exact q) λc xs q=>by rw[aP (ay q hn)];exact q
   rcases hc with z|z;·rw[z];exact d b u e
   ·exact d c _ z
theorem L4{t':Nat}{ch:List Addr}(I:Inv X pins σ H s)(k:∀b ob,b∉ch->s.heap.get? b=some ob->h'.get? b=some ob)(a:∀b∈ch,lq X pins H b):Inv X pins σ H {s with heap:=h',toks:=t'}:=by
 have d:∀b u,H b=some u->b∉ch:=λb u e z=>by rw[(a b z).1]at e;cases e
 refine I.step (g':=s.gens) (d':=s.drawn) (ch:=ch) (λb hb=>⟨(a b hb).2.2.2.1,(a b hb).2.1,(a b hb).2.2.2.2.1,(a b hb).2.2.2.2.2⟩) (λb ob _ _ hc e _=>k b ob hc e) (λb ob _ _ hc e _=>⟨ob.slots,k b ob hc e⟩) (λb ob _ e n=>n) (λb ob hc e=>⟨ob,k b ob hc e⟩) (λb xs e=>e) (λb ob u e=>e) (λb ps e=>(by rw[e])) (λm hm=>?_) (λb u e=>?_) I.bare;·obtain⟨ob,es,ep,ho,r⟩:=hm;exact⟨ob,es,ep,k _ ob (λz=>(a _ z).2.1 rfl) ho,r⟩
 ·refine(I.bT b u e).wt (λc v hc q=>k c v ?_ q) (λ_ q=>q) λ_ _ q=>q;rcases hc with z|z;·rw[z];exact d b u e
  ·exact d c _ z
end
noncomputable def Zb(z:Str):It:=⟨λi _=>i<z.cps.size,λi H x H'=>H'=H/\∃c,z.cps[i]?=some c/\x= .str ⟨#[c]⟩,λi _=>z.cps.size<=i⟩
theorem IC{P:Program}{w:World}{K:PySem.W.Frag}{tg:Expr}(it:Addr)(z:Str)(t:Tok):Turn P w K tg (Zb z) [it] it (λi h=>h.IsStrIter it (strIterType z) z t i)where
 mem:=by simp
 obj:=λi h st b hb=>by
  obtain rfl:b=it:=by simpa using hb
  obtain⟨o,e,c,d⟩:=st;exact⟨o,e,λv q=>by rw[d]at q;cases q⟩
 keep:=λi h h' st k=>by obtain⟨o,e,r⟩:=st;exact⟨o,k it (by simp) o e,r⟩
 item:=by
  intro X y hw p hc i pins s σ H E I l st j;subst y hw p;have hi:i<z.cps.size:=j;have a:z.cps[i]?=some z.cps[i]:=by simp[hi]
  obtain⟨m,f1,f2,f,n,g⟩:=l it (by simp);have fin:∀h',h'.IsStrIter it (strIterType z) z t (i+1)->Heap.SameBut it s.heap h'->∃u,some (Value.str ⟨#[z.cps[i]]⟩ s.toks)=some u/\wpAny (model X.prog X.w) X.A (letOwnedTupleGo tg (.ref it) u) (λ_ s2=>∃x H',Inv X pins σ H' s2/\RelV x u/\(Zb z).An i H x H'/\s2.heap.IsStrIter it (strIterType z) z t (i+1)/\∀b∈[it],H' b=none) E {s with heap:=h',toks:=s.toks+1}:=by intro h' mX sb;have B:Inv X pins σ H {s with heap:=h',toks:=s.toks+1}:=I.turned (λb o hb e=>(sb.2 b hb).trans e) m f1 f n g;obtain⟨o,e,c,d⟩:=id mX;refine⟨_,rfl,Bf (s:={s with heap:=h',toks:=s.toks+1}) e c d (by unfold strIterType;split<;>decide) ⟨.str ⟨#[z.cps[i]]⟩,H,B,⟨_,rfl⟩,⟨rfl,_,a,rfl⟩,mX,λb hb=>(l b hb).1⟩⟩
  cases ha:z.cps.all (·<128)with
   |true=>
    have e:strIterType z="str_ascii_iterator":=by simp[strIterType,ha]
    rw[e]at st fin⊢;exact wpAny_pyNext_ascii_item st a fin
   |false=>
    have e:strIterType z="str_iterator":=by simp[strIterType,ha]
    rw[e]at st fin⊢;exact wpAny_pyNext_wide_item st a fin
 done:=by
  intro X y hw p hc i pins s σ H E I l st j;subst y hw p;have a:z.cps[i]?=none:=by have j:z.cps.size<=i:=j;simpa using j
  obtain⟨m,f1,f2,f,n,g⟩:=l it (by simp);have fin:∀h',Heap.ExtBut it s.heap h'->(none:Option Value)=none/\Inv X pins σ H {s with heap:=h'}:=λh' C=>⟨rfl,I.turned (t':=s.toks) (λb o hb e=>C b o hb e) m f1 f n g⟩;cases ha:z.cps.all (·<128)with
   |true=>
    have e:strIterType z="str_ascii_iterator":=by simp[strIterType,ha]
    rw[e]at st;exact sG (I.hb hc) (I.O5 hc f g) st a fin
   |false=>
    have e:strIterType z="str_iterator":=by simp[strIterType,ha]
    rw[e]at st;exact uo (I.hb hc) (I.O5 hc f g) st a fin
 self:=λA i s Q E st h=>by
  cases ha:z.cps.all (·<128)with
   |true=>
    have e:strIterType z="str_ascii_iterator":=by simp[strIterType,ha]
    rw[e]at st;exact wpAny_pyIter_striter_ascii st h
   |false=>
    have e:strIterType z="str_iterator":=by simp[strIterType,ha]
    rw[e]at st;exact wpAny_pyIter_striter_wide st h
noncomputable def aab(tl:TE):TI:=λσ H R=>tl σ H λx a=>∃z,x= .str z/\R (Zb z) a
theorem z9{X:Cx}{tg l:Expr}{tl:TE}(hl:PE X l tl):PI X tg l (aab tl):=by
 intro pins s σ H R I h;refine bE (hl pins s σ H _ I h) λv s1 f=>?_;obtain⟨x,c,a,d,z,e,q⟩:=f;subst e;obtain⟨t,rfl⟩:=d;refine wpAny_pyIter_strU ?_;refine⟨s1.heap.objs.size,[s1.heap.objs.size],_,Zb z,c,rfl,a.kept (t':=s1.toks) λb o e=>zQ01 _ e,IC _ z t,⟨_,zQ12 _ rfl,rfl,rfl⟩,λb hb=>?_,q⟩;obtain rfl:b=s1.heap.objs.size:=by simpa using hb
 exact a.GP (zQ04 _) (a.bT.fresh (zQ04 _))
structure abi(a b z TI TO i1 i2:Addr)(i:Nat)(h:Heap):Prop where
 z:IsZip h z TI TO .none
 TI:IsPair h TI (.ref i1) (.ref i2)
 TO:∃u v,IsPair h TO u v
 i1:h.IsTupleIter i1 a i
 i2:h.IsTupleIter i2 b i
section
variable{X:Cx}
theorem dU:gm X (.builtin "isinstance") (λxs H Q=>∃x t n b,xs=[x, .ty n]/\kg X.K H x t/\PySem.W.kitOne X.K t (.type n)=some b/\Q (.bl b) H):=by intro pins s σ H xs us Q I r h;obtain⟨x,t,n,b,rfl,ty,e,q⟩:=h;obtain⟨u,v,rfl,a,c⟩:=r.two;obtain rfl:v=Value.type n:=c;exact G8 I a ty e λtk=>⟨.bl b,H,I.tok tk,rfl,q⟩
theorem ET:∀{bs:List Bool}{us:List Value},Vals (bs.map V.bl) us->∀(i:Nat)(u:Value),us[i]?=some u->u=Value.bool ((bs[i]?).getD true)|[],_, .nil,i,u,e=>by simp at e|b::bs,_, .cons r t,0,u,e=>by have r:_=Value.bool b:=r;simp at e;rw[<-e,r];rfl|b::bs,_, .cons r t,i+1,u,e=>by simpa using ET t i u (by simpa using e)
theorem lS(hc:X.calm=true):gm X (.builtin "all") (λxs H Q=>∃(p:Addr)(bs:List Bool),xs=[.ref p]/\aZ X.K H p (bs.map V.bl)/\Q (.bl (bs.all id)) H):=by
 intro pins s σ H xs us Q I r h;obtain⟨p,bs,rfl,hq,q⟩:=h;obtain⟨u,rfl,y⟩:=r.one;cases y;obtain⟨its,f,pl,C⟩:=I.list hq;have hl:=pl.isList;have lt:p<s.heap.objs.size:=by obtain⟨o,e,_⟩:=hl;exact zQ09 e
 have w:∀a,X.A.in1.handled=some (.ref a)->a≠s.heap.objs.size:=λa c=>by
  rcases I.hb hc with z|⟨b,oe,vs,g,j,_⟩;·rw[show X.A.in1.handled=X.A.handled from rfl,z]at c;cases c
  ·rw[show X.A.in1.handled=X.A.handled from rfl,g]at c;cases c;exact zQ18 (zQ09 j)
 refine call_all_walk (wpAny_pyIter_list hl ?_);refine⟨s.heap.objs.size,_,[s.heap.objs.size],its.toArray.size,_,_,λi=>(bs[i]?).getD true,rfl,rA _ p (zQ18 lt) its.toArray w,⟨⟨_,zQ12 _ rfl,rfl,rfl⟩,hl.push _,(I.hb hc).mono λa o _ eo=>zQ01 _ eo⟩,λi v s' B A k l=>?_,λh' tk m=>?_⟩;·have e:v= .bool ((bs[i]?).getD true):=ET f i v (by simpa using k);subst e;exact wpAny_truthy_bool l
 ·have e:((List.range its.toArray.size).all λi=>(bs[i]?).getD true)=bs.all id:=by
   have n:its.toArray.size=bs.length:=by rw[cC,<-f.length,bD]
   rw[n];clear n;rw[Bool.eq_iff_iff,List.all_eq_true,List.all_eq_true];constructor;·intro z x t;obtain⟨i,hi,rfl⟩:=List.mem_iff_getElem.mp t;have :=z i (by simpa using hi);simpa[hi]using this
   ·intro z i hi;have hi:i<bs.length:=by simpa using hi
    have :=z bs[i] (List.getElem_mem hi);simpa[hi]using this
  refine⟨.bl (bs.all id),H,I.kept (h':=h') (t':=tk) λb o d=>m b o (λhm=>?_) (zQ01 _ d),by rw[e];rfl,q⟩;rw[List.mem_singleton.mp hm]at d;exact Nat.lt_irrefl _ (zQ09 d)
end
structure ic(K:PySem.W.Frag)(a:Addr)(D:List (Str×V)):Prop where
 sys:(a==sysModules)=false
 ex:∃o es ep,K.lookup a=some o/\o.ExactDict/\o.data= .dict es ep/\KTD.Rows RelV es.toList D
section
variable{X:Cx}{pins:List (Addr×Obj)}{σ:L2.St}{H:Hp}{s:Shared}{a:Addr}{D:List (Str×V)}{k:Str}{tk:Tok}{A:Around}{E:Value->Shared->Prop}
theorem ic.typeIs(T:ic X.K a D)(I:Inv X pins σ H s):s.TypeIs (.ref a) "dict":=let⟨o,_,_,e,x,_⟩:=T.ex;⟨o,I.jl a o e,x.1⟩
theorem qK{Q:Option Value->Shared->Prop}(T:ic X.K a D)(I:Inv X pins σ H s)(h1:∀v u,KTD.datumAt k D=some v->RelV v u->Q (some u) {s with toks:=s.toks+1})(h2:KTD.datumAt k D=none->Q none {s with toks:=s.toks+1}):wpAny (model X.prog X.w) A (dictGet a (.str k tk)) Q E s:=by
 obtain⟨_,o,es,ep,j,_,ed,f⟩:=T;have eo:=I.jl a o j;unfold dictGet;try with_reducible refine fW ?_
 have g:(es.all λe=>isExactStrKey e.key)=true:=by obtain⟨l⟩:=es;simpa using f.exact
 refine zQ00 (wpAny_pyHash_str (zQ00 (KTD.kt_dictFind_strs (s:={s with toks:=s.toks+1}) eo ed g ?_)));have b:Q (findBy (λk v=>v.isStr k) es k) {s with toks:=s.toks+1}:=by
  have h:findBy (λk v=>v.isStr k) es k=(es.toList.find? λe=>e.key.isStr k).map (·.val):=by obtain⟨l⟩:=es;simp[findBy]
  rw[h];cases c:KTD.datumAt k D with|some d=>obtain⟨v,hv,hr⟩:=f.find_some c;rw[hv];exact h1 d v c hr|none=>rw[f.find_none c];exact h2 c
 rw[findBy_of_findIdx?]at b;cases hi:es.findIdx? λe=>e.key.isStr k with|none=>rw[hi]at b;exact zQ02 b|some i=>rw[hi]at b;exact zQ00 (wpAny_dictEntries (s:={s with toks:=s.toks+1}) eo ed (zQ02 b))
theorem IH{Q:Value->Shared->Prop}{v:V}(T:ic X.K a D)(I:Inv X pins σ H s)(hd:KTD.datumAt k D=some v)(h:∀u,RelV v u->Q u {s with toks:=s.toks+1}):wpAny (model X.prog X.w) A (getItem (.ref a) (.str k tk)) Q E s:=by
 have ty:=T.typeIs I;unfold getItem;try with_reducible refine fW ?_
 refine zQ00 (wpAny_sequenceKey ty (by decide) ?_);refine zQ00 (wpAny_callSpecial?_slot (name:=Str.ofString "__getitem__") ty slot_dict_getitem (gP slot_dict_getitem ty entry_dict_getitem ?_ (args_dict_getitem _ _)));show wpAny (model X.prog X.w) _ (dictGet a (.str k tk)>>=_) _ _ s;refine zQ00 (qK T I (λb u e r=>?_) λhn=>?_);·rw[hd]at e;cases e;exact zQ02 ⟨u,rfl,zQ02 (h u r)⟩
 ·rw[hd]at hn;cases hn
noncomputable def fQ(k:Str)(D:List (Str×V)):Bool:=(KTD.datumAt k D).isSome
theorem mK{Q:Bool->Shared->Prop}(T:ic X.K a D)(I:Inv X pins σ H s)(h:Q (fQ k D) {s with toks:=s.toks+1}):wpAny (model X.prog X.w) A (contains (.ref a) (.str k tk)) Q E s:=by
 have ty:=T.typeIs I;unfold contains;try with_reducible refine fW ?_
 refine zQ00 (wpAny_specialOf ty slot_dict_contains.lookup ?_);show wpAny (model X.prog X.w) _ (if(some (Value.builtin "dict.__contains__")==some Value.none)=true then _ else _) _ E s;rw[if_neg (by rw[beq_builtin_none];exact eE)];refine zQ00 (wpAny_callSpecialUnlessNone?_slot (name:=Str.ofString "__contains__") ty slot_dict_contains (gP slot_dict_contains ty entry_dict_contains ?_ (args_dict_contains _ _)));show wpAny (model X.prog X.w) _ (dictGet a (.str k tk)>>=_) _ _ s;refine zQ00 (qK T I (λv u e _=>?_) λhn=>?_)
 ·have hb:fQ k D=true:=by unfold fQ;rw[e];rfl
  rw[hb]at h;show wpAny (model X.prog X.w) _ (ret (.bool true)) _ _ _;exact zQ02 ⟨_,rfl,wpAny_truthy_bool h⟩
 ·have hb:fQ k D=false:=by unfold fQ;rw[hn];rfl
  rw[hb]at h;show wpAny (model X.prog X.w) _ (Builtin.Dict.pendingKey? a (.str k tk)>>=_) _ _ _;exact zQ00 (wpAny_pendingKey_other T.sys (zQ02 ⟨_,rfl,wpAny_truthy_bool h⟩))
end
section
variable{X:Cx}
theorem Hc:jH X (compareOp .In) (λx y H Q=>∃k a D,x= .str k/\y= .ref a/\ic X.K a D/\Q (.bl (fQ k D)) H):=by intro pins s σ H x y v u Q I b c h;obtain⟨k,a,D,rfl,rfl,T,q⟩:=h;obtain⟨t,rfl⟩:=b;cases c;show wpAny (model X.prog X.w) _ (do return Value.bool (<-contains (.ref a) (.str k t)):Sem Value) _ _ s;exact zQ00 (mK T I (zQ02 ⟨.bl _,H,I.tok _,rfl,q⟩))
theorem ly:jH X (compareOp .NotIn) (λx y H Q=>∃k a D,x= .str k/\y= .ref a/\ic X.K a D/\Q (.bl (!fQ k D)) H):=by intro pins s σ H x y v u Q I b c h;obtain⟨k,a,D,rfl,rfl,T,q⟩:=h;obtain⟨t,rfl⟩:=b;cases c;show wpAny (model X.prog X.w) _ (do return Value.bool (!(<-contains (.ref a) (.str k t))):Sem Value) _ _ s;exact zQ00 (mK T I (zQ02 ⟨.bl _,H,I.tok _,rfl,q⟩))
noncomputable def ZJ(K:PySem.W.Frag):R2:=λx y H Q=>∃a D k v,x= .ref a/\y= .str k/\ic K a D/\KTD.datumAt k D=some v/\Q v H
theorem J1{o i:Expr}{m:Pos}{c ty:TE}(ho:PE X o c)(hi:PE X i ty)(l:XQ i):PE X (.Subscript o i m) (Rw (ZJ X.K) c ty):=by intro pins s σ H Q I h;refine M9 PySem.F.slot_dict_getitem.lookup l (bE (ho pins s σ H _ I h) λu s1⟨x,d,g,n,q1⟩=>bE (hi pins s1 σ d _ g q1) λw s2 q=>?_);obtain⟨y,f,b,p,a,D,k,v,ex,j,T,e,q2⟩:=q;subst ex j;cases n;obtain⟨t,rfl⟩:=p;exact⟨T.typeIs b,IH T b e λu r=>⟨v,f,b.tok _,r,q2⟩⟩
end
end L3
end
section
namespace KM
open PySem
inductive D where|bA|bl(b:Bool)|int(i:Int)|str(x:Str)|tup(ds:List D)deriving Inhabited
mutual noncomputable def aD:D->Nat| .tup ds=>1+aH ds| .bA=>0| .bl _=>0| .int _=>0| .str _=>0 noncomputable def aH:List D->Nat|[]=>0|d::r=>aD d+aH r end
mutual noncomputable def depth:D->Nat| .tup ds=>1+aF ds| .bA=>0| .bl _=>0| .int _=>0| .str _=>0 noncomputable def aF:List D->Nat|[]=>0|d::r=>max (depth d) (aF r)end
noncomputable def isTup:D->Bool| .tup _=>true|_=>false
noncomputable def tk:D->List D| .tup ds=>ds.filter isTup|_=>[]
noncomputable def lv:Nat->List D->List D|0,l=>l|n+1,l=>lv n (l.flatMap tk)
theorem ka:∀l:List D,aH (l.filter isTup)=aH l|[]=>rfl|d::r=>by have a:=ka r;cases d<;>simp[isTup,List.filter_cons,aH,aD,a]
theorem j8:∀l:List D,aF (l.filter isTup)=aF l|[]=>rfl|d::r=>by have a:=j8 r;cases d<;>simp[isTup,List.filter_cons,aF,depth,a]
theorem tf:∀l r:List D,aH (l++r)=aH l+aH r|[],r=>by simp[aH]|d::l,r=>by simp[aH,tf l r];lia
theorem ud:∀l r:List D,aF (l++r)=max (aF l) (aF r)|[],r=>by simp[aF]|d::l,r=>by simp only[List.cons_append,aF,ud l r];exact(Nat.max_assoc _ _ _).symm
theorem Ls:∀d:D,isTup d=true->aD d=1+aH (tk d)| .tup ds,_=>by simp[aD,tk,ka]
theorem BS:∀d:D,isTup d=true->depth d=1+aF (tk d)| .tup ds,_=>by simp[depth,tk,j8]
theorem Mz(d:D):∀x∈tk d,isTup x=true:=by cases d<;>simp[tk]
theorem t_:∀l:List D,(∀x∈l,isTup x=true)->aH l=l.length+aH (l.flatMap tk)|[],_=>rfl|d::r,h=>by have h1:=t_ r λx a=>h x (ck _ a);have h2:=Ls d (h d bI);simp only[List.flatMap_cons,tf,aH,b_];lia
theorem kF:∀l:List D,(∀x∈l,isTup x=true)->l≠[]->aF l=1+aF (l.flatMap tk)|[],_,h=>(h rfl).elim|[d],h,_=>by have h2:=BS d (h d bI);simp only[List.flatMap_cons,List.flatMap_nil,eF,aF];lia|d::e::r,h,_=>by have h1:=kF (e::r) (λx a=>h x (ck _ a)) (by simp);have h2:=BS d (h d bI);rw[List.flatMap_cons,ud];have h3:aF (d::e::r)=max (depth d) (aF (e::r)):=rfl;lia
theorem nj(l:List D):∀x∈l.flatMap tk,isTup x=true:=by intro x a;obtain⟨d,_,h⟩:=List.mem_flatMap.mp a;exact Mz d x h
theorem Lq:∀n,lv n []=[]|0=>rfl|n+1=>by rw[lv,List.flatMap_nil];exact Lq n
theorem qP:∀n l,lv (n+1) l=(lv n l).flatMap tk|0,l=>rfl|n+1,l=>by rw[lv,qP n,<-lv]
theorem EU:∀n l,(∀x∈l,isTup x=true)->∀x∈lv n l,isTup x=true|0,_,h=>h|n+1,l,_=>EU n _ (nj l)
noncomputable def fX:Nat->List D->Nat|0,_=>0|n+1,l=>fX n l+(lv n l).length
theorem rD:∀n l,fX (n+1) l=l.length+fX n (l.flatMap tk)|0,l=>by simp[fX,lv]|n+1,l=>by have :=rD n l;simp only[fX]at this⊢;rw[show lv (n+1) l=lv n (l.flatMap tk)from rfl];lia
theorem kH:∀n l,(∀x∈l,isTup x=true)->aH l=fX n l+aH (lv n l)|0,l,_=>by simp[fX,lv]|n+1,l,h=>by have h1:=t_ l h;have h2:=kH n (l.flatMap tk) (nj l);rw[rD,show lv (n+1) l=lv n (l.flatMap tk)from rfl];lia
theorem qY:∀n l,(∀x∈l,isTup x=true)->(lv n l=[]↔aF l<=n)
 |0,l,h=>by
  cases l with
   |nil=>simp[lv,aF]
   |cons d r=>
    have :=kF (d::r) h (by simp);simp only[lv];constructor;·intro q;cases q
    ·intro q;lia
 |n+1,l,h=>by cases l with|nil=>simp[Lq,aF]|cons d r=>have h1:=kF (d::r) h (by simp);have h2:=qY n ((d::r).flatMap tk) (nj _);rw[show lv (n+1) (d::r)=lv n ((d::r).flatMap tk)from rfl,h2];lia
theorem rg(n:Nat)(l:List D)(h:∀x∈l,isTup x=true):fX n l<=aH l:=by have :=kH n l h;lia
theorem Hs(l:List D)(h:∀x∈l,isTup x=true):(fX 40 l<=600/\lv 40 l=[])↔(aH l<=600/\aF l<=40):=by
 rw[qY 40 l h];have e:=kH 40 l h;constructor;·rintro⟨h1,h2⟩;rw[(qY 40 l h).mpr h2]at e;simp only[aH]at e;exact⟨by lia,h2⟩
 ·rintro⟨h1,h2⟩;exact⟨by lia,h2⟩
end KM
end
section
namespace L3
open PySem PySem.Spec PyProof.Rows L2 KM
mutual/--v stands for d on the heap H -/noncomputable def Rep(H:Hp):D->V->Prop| .bA,v=>v= .bA| .bl b,v=>v= .bl b| .int i,v=>v= .int i| .str x,v=>v= .str x/\x.length<=1000| .tup ds,v=>∃a vs,v= .ref a/\H a=some (.tup vs)/\bK H ds vs noncomputable def bK(H:Hp):List D->List V->Prop|[],vs=>vs=[]|d::ds,vs=>∃v r,vs=v::r/\Rep H d v/\bK H ds r end
mutual theorem Rep.mono{H H':Hp}(h:aE H H'):∀{d:D}{v:V},Rep H d v->Rep H' d v| .bA,_,r=>r| .bl _,_,r=>r| .int _,_,r=>r| .str _,_,r=>r| .tup _,_,⟨a,vs,e,q,r⟩=>⟨a,vs,e,h _ _ q,bK.mono h r⟩theorem bK.mono{H H':Hp}(h:aE H H'):∀{ds:List D}{vs:List V},bK H ds vs->bK H' ds vs|[],_,r=>r|_::_,_,⟨v,r,e,q,t⟩=>⟨v,r,e,Rep.mono h q,bK.mono h t⟩end
theorem bK.length{H:Hp}:∀{ds:List D}{vs:List V},bK H ds vs->vs.length=ds.length|[],_,r=>by have r:_=[]:=r;rw[r];rfl|_::_,_,⟨v,r,e,q,t⟩=>by rw[e,b_,b_,bK.length t]
theorem bK.get{H:Hp}:∀{ds:List D}{vs:List V}{i:Nat}{d:D},bK H ds vs->ds[i]?=some d->∃v,vs[i]?=some v/\Rep H d v|[],_,_,_,_,e=>by simp at e|d::_,_,0,_,⟨v,r,e,q,t⟩,h=>by simp at h;subst h;exact⟨v,by rw[e];rfl,q⟩|_::ds,_,i+1,d,⟨v,r,e,q,t⟩,h=>by obtain⟨u,h1,h2⟩:=bK.get (i:=i) t (by simpa using h);exact⟨u,by rw[e];simpa using h1,h2⟩
theorem bK.get'{H:Hp}{ds:List D}{vs:List V}{i:Nat}{v:V}(r:bK H ds vs)(e:vs[i]?=some v):∃d,ds[i]?=some d/\Rep H d v:=by have hi:i<vs.length:=(List.getElem?_eq_some_iff.mp e).1;rw[r.length]at hi;obtain⟨u,h1,h2⟩:=r.get (d:=ds[i]) (i:=i) (by simp[hi]);rw[e]at h1;cases h1;exact⟨ds[i],by simp[hi],h2⟩
theorem bK.append{H:Hp}:∀{ds es:List D}{vs us:List V},bK H ds vs->bK H es us->bK H (ds++es) (vs++us)|[],_,_,_,r,q=>by have r:_=[]:=r;subst r;exact q|_::_,_,_,_,⟨v,r,e,p,t⟩,q=>by subst e;exact⟨v,r++_,rfl,p,bK.append t q⟩
theorem bK.one{H:Hp}{d:D}{v:V}(r:Rep H d v):bK H [d] [v]:=⟨v,[],rfl,r,rfl⟩
theorem bK.snoc{H:Hp}{ds:List D}{vs:List V}{d:D}{v:V}(r:bK H ds vs)(q:Rep H d v):bK H (ds++[d]) (vs++[v]):=r.append (bK.one q)
noncomputable def tyD:D->String| .bA=>"NoneType"| .bl _=>"bool"| .int _=>"int"| .str _=>"str"| .tup _=>"tuple"
theorem Rep.ty{K:PySem.W.Frag}{H:Hp}:∀{d:D}{v:V},Rep H d v->kg K H v (.type (tyD d))| .bA,_,r=>by cases(show _=V.bA from r);exact .bA| .bl b,_,r=>by cases(show _=V.bl b from r);exact .bl b| .int i,_,r=>by cases(show _=V.int i from r);exact .int i| .str x,_,r=>by cases(show _=V.str x from r.1);exact .str x| .tup _,_,⟨a,vs,e,q,_⟩=>by cases e;exact .tup q
noncomputable def aS:D->Bool| .str _=>true|_=>false
theorem k_(K:PySem.W.Frag)(d:D):PySem.W.kitOne K (.type (tyD d)) (.type "tuple")=some (isTup d):=by cases d<;>rfl
theorem M5(K:PySem.W.Frag)(d:D):PySem.W.kitOne K (.type (tyD d)) (.type "str")=some (aS d):=by cases d<;>rfl
theorem ao{H:Hp}{p:Addr}(h:H p=none)(o:HO):aE H (upd H p o):=λb u q=>by rw[aP (ay q h)];exact q
end L3
end
section
namespace L3
open PySem PySem.Spec PyProof.Rows L2
theorem part_of{u:Value}{o:Option Int}(p:IsPart u o):∃q:Option (Int×Tok),u=partValue q/\q.map (·.1)=o:=by cases p with|none=>exact⟨none,rfl,rfl⟩|int i t=>exact⟨some (i,t),rfl,rfl⟩
theorem eA{J:It}{g:TG}{tb:TS}{D:Ends}{σ:L2.St}{H:Hp}(n:Nat)(Pv:Nat->L2.St->Hp->Prop)(h:Pv 0 σ H)(j:∀i σ H,i<n->Pv i σ H->J.go i H/\∀x H',J.An i H x H'->g x σ H' λc a=>tb {D with nx:=Pv (i+1),ct:=Pv (i+1),bk:=D.nx} c a)(hd:∀σ H,Pv n σ H->J.stop n H/\D.nx σ H):∃W:Nat->Nat->L2.St->Hp->Prop,(∃m,W 0 m σ H)/\∀i m σ H,W i m σ H->(J.stop i H/\D.nx σ H)\/(J.go i H/\∃N:L2.St->Hp->Prop,(∀b H',N b H'->∃d,d<m/\W (i+1) d b H')/\∀x H',J.An i H x H'->g x σ H' λc a=>tb {D with nx:=N,ct:=N,bk:=D.nx} c a):=by
 refine⟨λi m σ H=>m=n-i/\i<=n/\Pv i σ H,⟨n,by simp,zQ25 _,h⟩,?_⟩;rintro i m σ H⟨rfl,hi,p⟩;by_cases hlt:i<n;·obtain⟨e,f⟩:=j i σ H hlt p;exact .inr ⟨e,Pv (i+1),λb H' k=>⟨n-(i+1),by lia,rfl,hlt,k⟩,f⟩
 ·obtain rfl:i=n:=by lia
  exact .inl (hd σ H p)
def bg(p:Addr)(H H':Hp):Prop:=∀b o,b≠p->H b=some o->H' b=some o
theorem bg.trans{p:Addr}{H d e:Hp}(a:bg p H d)(b:bg p d e):bg p H e:=λc o n h=>b c o n (a c o n h)
theorem _root_.L2.aE.x{p:Addr}{H H':Hp}(a:aE H H'):bg p H H':=λc o _ h=>a c o h
theorem bg.upd{p:Addr}{H:Hp}(o:HO):bg p H (upd H p o):=λb u n h=>by rw[aP n];exact h
mutual theorem Rep.d9{p:Addr}{H H':Hp}(h:bg p H H')(hp:∀vs,H p≠some (.tup vs)):∀{d:KM.D}{v:V},Rep H d v->Rep H' d v| .bA,_,r=>r| .bl _,_,r=>r| .int _,_,r=>r| .str _,_,r=>r| .tup _,_,⟨a,vs,e,q,r⟩=>⟨a,vs,e,h _ _ (λz=>hp vs (by rw[<-z];exact q)) q,bK.d9 h hp r⟩theorem bK.d9{p:Addr}{H H':Hp}(h:bg p H H')(hp:∀vs,H p≠some (.tup vs)):∀{ds:List KM.D}{vs:List V},bK H ds vs->bK H' ds vs|[],_,r=>r|_::_,_,⟨v,r,e,q,t⟩=>⟨v,r,e,Rep.d9 h hp q,bK.d9 h hp t⟩end
section
variable{prog:Program}{w:World}{A:Around}{E:Value->Shared->Prop}{s:Shared}{d:Addr}{o:Obj}{es:Array DictEntry}{ep:Nat}{Nu:Int}
end
section
variable{X:Cx}{pins:List (Addr×Obj)}{σ:L2.St}{H:Hp}{s:Shared}{a:Addr}{D:List (Str×V)}{A:Around}{E:Value->Shared->Prop}
end
end L3
end
section
namespace L3
open PySem L2
section
variable{prog:Program}{w:World}{A:Around}{E:Value->Shared->Prop}{s:Shared}
theorem Tz{it t:Addr}{i:Nat}{its:Array Value}{x:Value}{Q:Value->Shared->Prop}(c:s.heap.IsListIter it t i)(gt:s.heap.IsList t its)(g:its[i]?=some x)(h:∀h',h'.IsListIter it t (i+1)->Heap.SameBut it s.heap h'->Q x {s with heap:=h'}):wpAny (model prog w) A (Builtin.SmallTypes.nextOf (.ref it)) Q E s:=by obtain⟨j,b,d,a⟩:=id c;obtain⟨k,f,_,nt,e⟩:=gt;unfold Builtin.SmallTypes.nextOf;refine zQ00 (wpAny_callSpecial?_slot (name:=Str.ofString "__next__") c.typeIs slot_listiter_next (gP slot_listiter_next c.typeIs entry_listiter_next ?_ (args_listiter_next _)));show wpAny (model prog w) _ (field (.ref it) 0>>=_) _ _ s;refine zQ00 (dD b a (x:= .ref t) rfl ?_);show wpAny (model prog w) _ (if(Value.ref t==Value.none)=true then _ else _) _ _ s;rw[if_neg (show¬(Value.ref t==Value.none)=true from eE)];show wpAny (model prog w) _ (field (.ref it) 1>>=_) _ _ s;refine zQ00 (dD b a (x:= .int i 0) rfl ?_);show wpAny (model prog w) _ (seqItems? (.ref t)>>=_) _ _ s;refine zQ00 (wpAny_seqItems f e ?_);simp only[Int.toNat_natCast,g];refine zQ00 (wpAny_setField b a (by simp) (zQ02 ⟨x,rfl,zQ02 (h _ ?_ (Heap.SameBut.update ..))⟩));refine⟨_,pk _ b (Obj.isFreed_of_fields (Obj.data_mapFields a _)),(Obj.cls_mapFields ..).trans d,?_⟩;rw[Obj.data_mapFields a];simp[rawInt]
theorem Dg{it t:Addr}{i:Nat}{its:Array Value}{Q:Value->Shared->Prop}(hb:HB s.heap A)(l:∀a,A.handled=some (.ref a)->a≠it)(d:s.heap.IsListIter it t i)(gt:s.heap.IsList t its)(h:its[i]?=none)(j:∀h' e,Heap.ExtBut it s.heap h'->(∃o,h'.get? e=some o/\o.cls= .type "StopIteration")->E (.ref e) {s with heap:=h'}):wpAny (model prog w) A (Builtin.SmallTypes.nextOf (.ref it)) Q E s:=by obtain⟨n,c,m,b⟩:=id d;obtain⟨p,g,_,nt,f⟩:=gt;unfold Builtin.SmallTypes.nextOf;refine zQ00 (wpAny_callSpecial?_slot (name:=Str.ofString "__next__") d.typeIs slot_listiter_next (gP slot_listiter_next d.typeIs entry_listiter_next ?_ (args_listiter_next _)));show wpAny (model prog w) _ (field (.ref it) 0>>=_) _ _ s;refine zQ00 (dD c b (x:= .ref t) rfl ?_);show wpAny (model prog w) _ (if(Value.ref t==Value.none)=true then _ else _) _ _ s;rw[if_neg (show¬(Value.ref t==Value.none)=true from eE)];show wpAny (model prog w) _ (field (.ref it) 1>>=_) _ _ s;refine zQ00 (dD c b (x:= .int i 0) rfl ?_);show wpAny (model prog w) _ (seqItems? (.ref t)>>=_) _ _ s;refine zQ00 (wpAny_seqItems g f ?_);simp only[Int.toNat_natCast,h];refine zQ00 (wpAny_rule (zQ00 (wpAny_setField c b (by simp) ?_)));exact eI (A:=A.in1) (hb.upd l) λh' e k he=>j h' e (lM k) he
end
theorem nC{prog:Program}{w:World}{A:Around}(it t:Addr)(ne:t≠it)(e:∀a,A.handled=some (.ref a)->a≠it)(its:Array Value):Draws prog w A it (it::t::nq A) its.size (λi v=>its[i]?=some v) (λi h=>h.IsListIter it t i/\h.IsList t its/\HB h A)where
 live:=λ_ _ st=>let⟨o,ho,_⟩:=st.1;⟨o,ho⟩;frame:=λi h h' st c=>by obtain⟨⟨f,j,q⟩,⟨g,k,r⟩,hb⟩:=st;exact⟨⟨f,c it (by simp) f j,q⟩,⟨g,c t (by simp) g k,r⟩,hb.frame λb hb=>c b (by simp[hb])⟩
 item:=λi s Q E hi st n=>by refine Tz st.1 st.2.1 (x:=its[i]) (by simp[hi]) λh' p d=>?_;exact n _ h' s.toks (by simp[hi]) ⟨p,st.2.1.extBut d.extBut ne,st.2.2.mono λa o l eo=>d.extBut a o (e a l) eo⟩ d
 done:=λs Q E st m=>Dg st.2.2 e st.1 st.2.1 (by simp) m
noncomputable abbrev Ze(h:Heap)(a:Addr):Heap:=h.push {cls:= .type "list_iterator",data:= .fields #[.ref a, .int 0 0]}
noncomputable abbrev ZC(h:Heap)(a b:Addr):Heap:=(Ze h a).push {cls:= .type "list_iterator",data:= .fields #[.ref b, .int 0 0]}
noncomputable abbrev YV(h:Heap)(a b:Addr):Heap:=(ZC h a b).push {cls:= .type "tuple",data:= .seq #[.ref h.objs.size, .ref (Ze h a).objs.size]}
noncomputable abbrev Zj(h:Heap)(a b:Addr):Heap:=(YV h a b).push {cls:= .type "tuple",data:= .seq #[.none, .none]}
noncomputable abbrev TZ(h:Heap)(a b:Addr):Heap:=(Zj h a b).push {cls:= .type "zip",data:= .fields #[.none, .bool false, .bool false, .ref (ZC h a b).objs.size, .ref (YV h a b).objs.size]}
theorem C7(a b:Addr)(xs ys:Array Value):Meets (Builtin.«zip.__new__» ⟨[.type "zip", .ref a, .ref b],[]⟩) (λ_ R s=>s.heap.IsList a xs/\s.heap.IsList b ys/\R (.ok (.ret (.ref (Zj s.heap a b).objs.size))) {s with heap:=TZ s.heap a b}):= .of_wp λprog w A R s h=>by obtain⟨c,g,d,tk,os⟩:=s;obtain⟨e,f,h⟩:=h;have hsub:=sub_zip;have i:Heap.IsList (Shared.heap ⟨c,g,d,tk,os⟩) a xs:=e;have j:Heap.IsList (Shared.heap ⟨c.push {cls:= .type "list_iterator",data:= .fields #[.ref a, .int 0 0]},g,d,tk,os⟩) b ys:=Heap.IsList.push f _;wp_walk using wpAny_pyIter_list i,wpAny_pyIter_list j;exact⟨_,rfl,h⟩
section
variable{prog:Program}{w:World}{A:Around}{E:Value->Shared->Prop}{s:Shared}
theorem Hg{a b:Addr}{xs ys:Array Value}{Q:Value->Shared->Prop}(m:s.heap.IsList a xs)(n:s.heap.IsList b ys)(h:∀h',IsZip h' (s.heap.objs.size+4) (s.heap.objs.size+2) (s.heap.objs.size+3) .none->IsPair h' (s.heap.objs.size+2) (.ref s.heap.objs.size) (.ref (s.heap.objs.size+1))->IsPair h' (s.heap.objs.size+3) .none .none->h'.IsListIter s.heap.objs.size a 0->h'.IsListIter (s.heap.objs.size+1) b 0->(∀c o,s.heap.get? c=some o->h'.get? c=some o)->Q (.ref (s.heap.objs.size+4)) {s with heap:=h'}):wpAny (model prog w) A (call (.type "zip") [.ref a, .ref b]) Q E s:=by
 refine callType_new F.called_zip (by decide) (F.typeCall_zip_2 _ _) (F.newCall_zip_2 _ _) (λobj=>F.args_object_init_3 obj _ _) F.entry_zip_new (C7 a b xs ys) ⟨m,n,?_⟩;have d:(Ze s.heap a).objs.size=s.heap.objs.size+1:=zQ27 ..;have e:(ZC s.heap a b).objs.size=s.heap.objs.size+2:=by rw[zQ27,d]
 have f:(YV s.heap a b).objs.size=s.heap.objs.size+3:=by rw[zQ27,e]
 have i:(Zj s.heap a b).objs.size=s.heap.objs.size+4:=by rw[zQ27,f]
 have g:(TZ s.heap a b).get? (Zj s.heap a b).objs.size=some _:=zQ12 _ rfl;have l:(TZ s.heap a b).get? (YV s.heap a b).objs.size=some _:=zQ01 _ (zQ12 _ rfl);have k:(TZ s.heap a b).get? (ZC s.heap a b).objs.size=some _:=zQ01 _ (zQ01 _ (zQ12 _ rfl));have j:(TZ s.heap a b).get? (Ze s.heap a).objs.size=some _:=zQ01 _ (zQ01 _ (zQ01 _ (zQ12 _ rfl)));have p:(TZ s.heap a b).get? s.heap.objs.size=some _:=zQ01 _ (zQ01 _ (zQ01 _ (zQ01 _ (zQ12 _ rfl))));show _/\_;rw[e,f,i]at g;rw[d,e]at k;rw[f]at l;rw[d]at j;rw[i];refine⟨⟨_,g,rfl⟩,h _ g k l ⟨_,p,rfl,rfl⟩ ⟨_,j,rfl,rfl⟩ λc o q=>?_⟩;exact zQ01 _ (zQ01 _ (zQ01 _ (zQ01 _ (zQ01 _ q))))
end
end L3
end
section
namespace L3
open PySem PySem.Spec PyProof.Rows L2
theorem xP{X:Cx}{pins:List (Addr×Obj)}{σ:L2.St}{H:Hp}{s:Shared}{a d:Addr}{xs:List V}(I:Inv X pins σ H s)(q:aZ X.K H a xs)(f:lq X pins H d):a≠d:=λz=>by
 subst z;rcases q with(q|⟨o,q⟩)|⟨o,_,_,q,_⟩;·rw[f.1]at q;cases q
 ·rw[f.1]at q;cases q
 ·have e:=I.ok.mod.Ez a o q;rcases f.2.2.2.1 with z|z;·exact I.ok.Di a o e z
  ·exact absurd (gc (zQ09 e) I.ok.HJ) (Nat.not_lt.mpr z)
noncomputable def XA(K:PySem.W.Frag)(a b:Addr):It:=⟨λi H=>∃xs ys x y,aZ K H a xs/\aZ K H b ys/\xs[i]?=some x/\ys[i]?=some y,λi H v H'=>∃p x y,v= .ref p/\H p=none/\H'=upd H p (.tup [x,y])/\∀xs ys,aZ K H a xs->aZ K H b ys->xs[i]?=some x/\ys[i]?=some y,λi H=>∃xs ys,aZ K H a xs/\aZ K H b ys/\xs.length=i⟩
structure VS(a b z TI TO i1 i2:Addr)(i:Nat)(h:Heap):Prop where
 z:IsZip h z TI TO .none
 TI:IsPair h TI (.ref i1) (.ref i2)
 TO:∃u v,IsPair h TO u v
 i1:h.IsListIter i1 a i
 i2:h.IsListIter i2 b i
theorem Gy{P:Program}{w:World}{K:PySem.W.Frag}{es:List Expr}{k:Nat}{pos:Pos}(a b n:Nat):Turn P w K (.Tuple es k pos) (XA K a b) [n+4,n+2,n+3,n,n+1] (n+4) (VS a b (n+4) (n+2) (n+3) n (n+1))where
 mem:=by simp
 obj:=λi h st c hc=>by
  simp only[zQ29,zQ14,or_false]at hc;obtain⟨B,m,_,d1⟩:=st.i1;obtain⟨M,p,_,d2⟩:=st.i2;obtain⟨u,v,eo⟩:=st.TO;rcases hc with rfl|rfl|rfl|rfl|rfl;·exact⟨_,st.z,λv q=>by cases q⟩
  ·exact⟨_,st.TI,λv q=>by cases q⟩
  ·exact⟨_,eo,λv q=>by cases q⟩
  ·exact⟨B,m,λv q=>by rw[d1]at q;cases q⟩
  ·exact⟨M,p,λv q=>by rw[d2]at q;cases q⟩
 keep:=λi h h' st kp=>by obtain⟨B,m,r1⟩:=st.i1;obtain⟨M,p,r2⟩:=st.i2;obtain⟨u,v,eo⟩:=st.TO;exact⟨kp _ (by simp) _ st.z,kp _ (by simp) _ st.TI,⟨u,v,kp _ (by simp) _ eo⟩,⟨B,kp _ (by simp) _ m,r1⟩,⟨M,kp _ (by simp) _ p,r2⟩⟩
 item:=by
  intro X F hw D hc i pins s σ H E I f st G;subst F hw D;obtain⟨xs,ys,x,y,q1,q2,W,Y⟩:=G;obtain⟨t,O,N,_⟩:=I.list q1;obtain⟨J,rv2,p2,_⟩:=I.list q2;obtain⟨R,U,X3⟩:=O.get W;obtain⟨S,V,ru2⟩:=rv2.get Y;obtain⟨u,v,eo⟩:=st.TO;have Z:=zQ09 st.z;have l1:i<t.toArray.size:=by rw[cC];exact(List.getElem?_eq_some_iff.mp U).1
  have l2:i<J.toArray.size:=by rw[cC];exact(List.getElem?_eq_some_iff.mp V).1
  have j:∀d∈[n+4,n+2,n+3,n,n+1],a≠d:=λd hd=>xP I q1 (f d hd);have r:∀d∈[n+4,n+2,n+3,n,n+1],b≠d:=λd hd=>xP I q2 (f d hd);have l:nc (n+4) (n+2) (n+3) n (n+1) (n::a::nq X.A.in1) ((n+1)::b::nq X.A.in1):=by have L:∀d∈[n+4,n+2,n+3,n,n+1],d∉nq X.A.in1:=λd hd z=>I.O5 hc (f d hd).2.2.2.1 (f d hd).2.2.2.2.2 d (ub z) rfl;have a1:=j (n+4) (by simp);have a2:=j (n+3) (by simp);have a3:=j (n+1) (by simp);have b1:=r (n+4) (by simp);have b2:=r (n+3) (by simp);have b3:=r n (by simp);constructor<;>(try simp only[zQ29,not_or])<;>first|lia|exact⟨by lia,by lia,L _ (by simp)⟩
  have C:∀d∈[n+4,n+2,n+3,n,n+1],∀a,X.A.in1.handled=some (.ref a)->a≠d:=λd hd=>I.O5 hc (f d hd).2.2.2.1 (f d hd).2.2.2.2.2;refine Hb (nC n a (j n (by simp)) (C n (by simp)) t.toArray) (nC (n+1) b (r (n+1) (by simp)) (C (n+1) (by simp)) J.toArray) l st.z st.TI eo ⟨st.i1,N.isList,I.hb hc⟩ ⟨st.i2,p2.isList,I.hb hc⟩ l1 l2 λx' y' h1 tk m p z1 B s1 s2 pr kp=>?_;have m:t.toArray[i]?=some x':=m;have p:J.toArray[i]?=some y':=p;have ex:R=x':=by rw[List.getElem?_toArray,U]at m;exact Option.some.inj m
  have ey:S=y':=by rw[List.getElem?_toArray,V]at p;exact Option.some.inj p
  subst ex ey;refine⟨_,rfl,wpAny_letOwnedTupleGo_zip (s:={s with heap:=h1,toks:=tk}) z1 λh2 z2 sb=>?_⟩;have lt:∀d∈[n+4,n+2,n+3,n,n+1],d<s.heap.objs.size:=λd hd=>by
   have :d<=n+4:=by simp at hd;lia
   exact Nat.lt_of_le_of_lt this Z
  have up:∀c o,c≠n+4->h1.get? c=some o->h2.get? c=some o:=λc o g e=>(sb.2 c g).trans e;have prT:h2.get? s.heap.objs.size=some {cls:= .type "tuple",data:= .seq #[R,S]}:=up _ _ (Nat.ne_of_gt Z) pr;refine⟨.ref s.heap.objs.size,_,Gk (s:=s) (h':=h2) (t':=tk) (ch:=[n+4,n+3,n,n+1]) (T:=s.heap.objs.size) (o:= .tup [x,y]) I (λc o g e=>?_) (λd hd=>f d (by simp only[zQ29,zQ14,or_false]at hd⊢;rcases hd with z|z|z|z<;>simp[z])) (zQ04 _) ?_,rfl,⟨_,x,y,rfl,I.bT.fresh (zQ04 _),rfl,λxs' ys' a1 a2=>?_⟩,?_,λd hd=>?_⟩;·simp only[zQ29,zQ14,or_false,not_or]at g;exact up c o g.1 (kp c o g.1 g.2.1 g.2.2.1 g.2.2.2 e)
  ·exact⟨(gu rfl),[R,S], .cons X3 (.cons ru2 .nil),⟨_,prT,rfl,_,rfl⟩⟩
  ·rw[I.k9 a1 q1,I.k9 a2 q2];exact⟨W,Y⟩
  ·obtain⟨⟨oa,ea,ra⟩,_⟩:=s1;obtain⟨⟨ob,eb,rb⟩,_⟩:=s2;refine⟨z2,up _ _ l.TIz (kp _ _ l.TIz l.TITO l.TI1 l.TI2 st.TI),⟨_,_,up _ _ (by lia) B⟩,⟨oa,up _ _ (by lia) ea,ra⟩,⟨ob,up _ _ (by lia) eb,rb⟩⟩
  ·rw[aP (zQ18 (lt d hd))];exact(f d hd).1
 done:=by
  intro X F hw D hc i pins s σ H E I f st G;subst F hw D;obtain⟨xs,ys,q1,q2,hl⟩:=G;obtain⟨t,O,N,_⟩:=I.list q1;obtain⟨u,v,eo⟩:=st.TO;have j:∀d∈[n+4,n+2,n+3,n,n+1],a≠d:=λd hd=>xP I q1 (f d hd);have r:∀d∈[n+4,n+2,n+3,n,n+1],b≠d:=λd hd=>xP I q2 (f d hd);have l:nc (n+4) (n+2) (n+3) n (n+1) (n::a::nq X.A.in1) ((n+1)::b::nq X.A.in1):=by have L:∀d∈[n+4,n+2,n+3,n,n+1],d∉nq X.A.in1:=λd hd z=>I.O5 hc (f d hd).2.2.2.1 (f d hd).2.2.2.2.2 d (ub z) rfl;have a1:=j (n+4) (by simp);have a2:=j (n+3) (by simp);have a3:=j (n+1) (by simp);have b1:=r (n+4) (by simp);have b2:=r (n+3) (by simp);have b3:=r n (by simp);constructor<;>(try simp only[zQ29,not_or])<;>first|lia|exact⟨by lia,by lia,L _ (by simp)⟩
  have hi:t.toArray.size=i:=by rw[cC,<-O.length];exact hl
  subst hi;have C:∀d∈[n+4,n+2,n+3,n,n+1],∀a,X.A.in1.handled=some (.ref a)->a≠d:=λd hd=>I.O5 hc (f d hd).2.2.2.1 (f d hd).2.2.2.2.2;refine Gg (nC n a (j n (by simp)) (C n (by simp)) t.toArray) l st.z st.TI eo ⟨st.i1,N.isList,I.hb hc⟩ λh1 kp=>⟨rfl,?_⟩;refine L4 (t':=s.toks) (ch:=[n+4,n+3,n,n+1]) I (λc o g e=>?_) λd hd=>f d (by simp only[zQ29,zQ14,or_false]at hd⊢;rcases hd with z|z|z|z<;>simp[z]);simp only[zQ29,zQ14,or_false,not_or]at g;exact kp c o g.1 g.2.1 g.2.2.1 g.2.2.2 e
 self:=λA i s Q E st h=>wpAny_pyIter_zip st.z h
noncomputable def Vc(K:PySem.W.Frag)(d:TA):TI:=λσ H R=>d σ H λvs c=>∃a b xs ys,vs=[.ref a, .ref b]/\aZ K c a xs/\aZ K c b ys/\R (XA K a b) c
theorem FN{X:Cx}{es:List Expr}{k:Nat}{F:Pos}{a b:Expr}{j:TA}{p i:Pos}(o:Gl X "zip")(hm:X.mg "zip"=none)(ha:PA X [a,b] j)(r:starEach [a,b] X.env=[(false,eval a X.env),(false,eval b X.env)]:=by rfl)(g:starEach [b] X.env=[(false,eval b X.env)]:=by rfl):PI X (.Tuple es k F) (.Call (.Name "zip" p) [a,b] [] i) (Vc X.K j):=by
 intro pins s σ H R I h;refine Call_ (gS I o hm boot_zip (PyProof.Rows.callWith_type1 (bE (ha i pins s σ H _ I h) λus s1⟨vs,f,c,y,q1⟩=>?_) (by rw[r,g]) (by rw[g];rfl)));obtain⟨a1,n,xs,ys,e,t,u,q⟩:=q1;subst e;obtain⟨M,N,rfl,A,B⟩:=Vals.two y;cases A;cases B;obtain⟨G,K,w,_⟩:=c.list t;obtain⟨J,L,x,_⟩:=c.list u;refine Hg w.isList x.isList λh1 l E v C D kp=>?_;refine wpAny_pyIter_zip (s:={s1 with heap:=h1}) l ?_;have m:Inv X pins σ f {s1 with heap:=h1}:=c.kept (t':=s1.toks) kp;refine⟨_,_,_,_,f,rfl,m,Gy a1 n s1.heap.objs.size,⟨l,E,⟨_,_,v⟩,C,D⟩,λd hd=>?_,q⟩;have :s1.heap.objs.size<=d:=by simp only[zQ29,zQ14,or_false]at hd;rcases hd with z|z|z|z|z<;>rw[z]<;>first|exact Nat.le_add_right _ _|exact zQ04 _
 exact c.GP this (c.bT.fresh this)
theorem gk:bootBuiltins "tuple"=some (.type "tuple"):=by decide+kernel
theorem tZ:bootBuiltins "int"=some (.type "int"):=by decide+kernel
theorem CI:bootBuiltins "str"=some (.type "str"):=by decide+kernel
theorem zZ:bootBuiltins "list"=some (.type "list"):=by decide+kernel
theorem SF:bootBuiltins "set"=some (.type "set"):=by decide+kernel
theorem bO:bootBuiltins "len"=some (.builtin "len"):=by decide+kernel
theorem cM:bootBuiltins "isinstance"=some (.builtin "isinstance"):=by decide+kernel
theorem Kf:bootBuiltins "all"=some (.builtin "all"):=by decide+kernel
theorem CC:bootBuiltins "max"=some (.builtin "max"):=by decide+kernel
theorem Gs:bootBuiltins "sorted"=some (.builtin "sorted"):=by decide+kernel
def Df(K:PySem.W.Frag)(mg:Str->Option Value)(x:Str)(st:Stmt)(ps:List Str):Prop:=∃f fd,Nj K x x st f fd/\mg x=some (.ref f)/\Binds K fd ps []
noncomputable def bu(P:Program)(w:World)(K:PySem.W.Frag)(mg:Str->Option Value)(CX:qm)(x:Str)(k:Nat)(ps:List Str)(sp:Sp):Prop:=∃f fd,(∀base,pB P w K mg base CX k f fd ps sp)/\mg x=some (.ref f)/\PySem.W.keepIn K (.ref f)=true/\Binds K fd ps []
section
variable{P:Program}{w:World}{K:PySem.W.Frag}{mg:Str->Option Value}
theorem Df.ok{x:Str}{st:Stmt}{N ps:List Str}{k:Nat}{sp:Sp}(D:Df K mg x st ps)(S:aG N ps (ak st))(len:∀vs H Q E,sp vs H Q E->vs.length=ps.length)(a:∀(base:Heap)(f:Addr)(bS:Value)(A:Around)(outer:List Env)(s:Shared)(H:Hp)(vs:List V)(Q:VK)(E:XK),cR k (A.deeper (envOfC x (ak st) s.heap.objs.size f bS))->sp vs H Q E->∃t,kM (dX bx P w K mg base N x (ak st) f bS A outer s H E).JT (bG st) t/\t {nx:=λ_ H'=>Q .bA H',rt:=Q} (start N vs) H):bu P w K mg bx x (k+1) ps sp:=by obtain⟨f,fd,F,m,b⟩:=D;exact⟨f,fd,λbase=>F.ok S len (a base f),m,F.kp,b⟩
theorem bu.never{x:Str}{st:Stmt}{ps:List Str}{sp:Sp}{k:Nat}{CX:qm}(D:Df K mg x st ps)(no:∀vs H Q E,¬sp vs H Q E):bu P w K mg CX x k ps sp:=by obtain⟨f,fd,F,m,b⟩:=D;exact⟨f,fd,λbase=>⟨λvs H Q E h=>absurd h (no vs H Q E),λA outer s H args us vs Q E _ _ _ _ h=>absurd h (no vs H Q E)⟩,m,F.kp,b⟩
end
noncomputable def Ce(h:Heap)(H:Hp)(fs:List Addr):Heap:=PySem.W.hideAll (tY h H) fs
theorem BB{h:Heap}{H:Hp}{fs:List Addr}{b:Addr}{o:Obj}(e:h.get? b=some o)(n:H b=none)(a:b∉fs):(Ce h H fs).get? b=some o:=PySem.W.hideAll_get _ (B8 e n) a
theorem Ng{h:Heap}{H:Hp}{fs:List Addr}{b:Addr}{o:Obj}(e:(Ce h H fs).get? b=some o):h.get? b=some o/\H b=none:=Es (PySem.W.of_hideAll fs e)
theorem GB(h:Heap)(H:Hp)(fs:List Addr):(Ce h H fs).objs.size=h.objs.size:=(PySem.W.hideAll_size _ _).trans (uW h H)
theorem mR{h B c:Heap}:∀{l:List Env},h.FunFrames B l->(∀L∈kJ l,c.get? L=none)->h.FunFrames c l|[],_,_=>trivial|env::l,⟨d,⟨L,o,a,_,ho,hd⟩,hr⟩,hn=>⟨d,⟨L,o,a,hn L (by unfold kJ;rw[mI,a];exact bI),ho,hd⟩,mR hr λb hb=>hn b (by unfold kJ at hb⊢;rw[mI,a];exact ck _ hb)⟩
theorem MA{X:Cx}{pins:List (Addr×Obj)}{σ:L2.St}{H:Hp}{s:Shared}(I:Inv X pins σ H s)(hc:X.calm=true):Ck X.prog X.w X.K X.mg (Ce s.heap H (kJ X.stack)) X.A X.stack s H:=by
 have k:∀b o,X.base.get? b=some o->b∉kJ X.stack:=λb o e z=>by
  rcases List.mem_cons.mp (I.jq b z)with z|z;·have :=zQ09 e;rw[z]at this;exact absurd this (Nat.not_lt.mpr (cw I.ok.HJ I.ok.above))
  ·exact I.ok.UT e z
 have up:∀b o,X.base.get? b=some o->(Ce s.heap H (kJ X.stack)).get? b=some o:=λb o e=>BB (I.bs b o e).1 (I.bs b o e).2 (k b o e);obtain⟨mb,d,f⟩:=I.ok.mod.blt;refine⟨I.ok.frames,⟨I.ok.mod.Ez.keeps up,I.ok.mod.glob.keeps up,⟨mb,d.keeps up,f⟩,I.ok.mod.nolimit.keeps up,I.ok.mod.bm.keeps up⟩,λb o e=>Ng e,Nat.le_of_eq (GB _ _ _),mR I.stack λL j=>PySem.W.hideAll_none _ j,I.zW,I.bT,I.bare,?_⟩;rcases I.ok.hd hc with h|⟨a,oe,vs,g,c,i⟩;·exact .inl h
 ·refine .inr ⟨a,oe,vs,g,?_,i⟩;rcases c with c|c;·exact up a oe c
  ·obtain⟨q1,q2,q3,q4,_⟩:=I.pin (a,oe) (List.mem_append_left _ c);refine BB q1 q2 λz=>?_;rcases List.mem_cons.mp (I.jq a z)with z|z;·exact q3 z
   ·exact q4 z
theorem xp{X:Cx}{CX:qm}{k:Nat}{f:Addr}{fd:FuncData}{ps:List Str}{sp:Sp}{E:XK}{pins:List (Addr×Obj)}{σ:L2.St}{H:Hp}{s:Shared}{Q:VK}{us:List Value}{vs:List V}{a:Value->Shared->Prop}(F:∀base,pB X.prog X.w X.K X.mg base CX k f fd ps sp)(hr:cR k X.A)(hb:Binds X.K fd ps [])(I:Inv X pins σ H s)(hc:X.calm=true)(c:∀e s',CX X.A.handled X.stack H s E e s'->a e s')(r:Vals vs us)(h:sp vs H Q E):wpAny (model X.prog X.w) X.A (call (.ref f) us) (EP X pins σ Q) a s:=by
 have hl:us.length=ps.length:=by rw[<-r.length];exact(F (Ce s.heap H (kJ X.stack))).len _ _ _ _ h
 have b:=hb s us I.jl (by rw[eF];exact hl);rw[eF]at b;refine wpAny_call (codeAny_mono ((F _).run X.A X.stack s H ⟨us,[]⟩ us vs Q E hr (MA I hc) b r h) λr s' hq=>?_);cases r with|error e=>exact c e s' hq|ok fl=>cases fl with|ret u=>exact I.after hq|next=>exact False.elim hq|brk=>exact False.elim hq|cont=>exact False.elim hq
theorem aO{X:Cx}{CX:qm}{x:Str}{k:Nat}{ps:List Str}{sp:Sp}{E:XK}{e:Expr}{es:List Expr}{t:TA}{p c:Pos}(F:bu X.prog X.w X.K X.mg CX x k ps sp)(hr:cR k X.A)(i:Gl X x)(l:Passes CX X E)(ha:PA X (e::es) t)(g:(x==("__debug__":Str))=false:=by decide)(he:starEach (e::es) X.env=(false,eval e X.env)::starEach es X.env:=by rfl)(j:(backTo c (starEach es X.env)).any (·.1)=false:=by rfl)(hc:X.calm=true:=by rfl):PE X (.Call (.Name x p) (e::es) [] c) (Eo sp [] E t):=by obtain⟨f,fd,F,m,kp,b⟩:=F;intro pins s σ H Q I h;refine wpAny_Call_Name_kw (jK I i m ?_ g);refine PySem.W.callWith_K (h₀:=X.base) I.ok.mod.Ez kp (bE (ha c pins s σ H _ I h) λus s1⟨vs,d,a,r,q⟩=>⟨a.jl,?_⟩) he j;have q:sp (vs++[]) d Q E:=q;rw[eF]at q;exact xp F hr b a hc (λe s' hc=>l pins σ d s1 e s' a hc) r q
theorem mi{X:Cx}{x:Str}{i:Int}{b:Pos}(hm:∃t,X.mg x=some (.int i t))(a:Gl X x)(hd:(x==("__debug__":Str))=false:=by decide):PE X (.Name x b) (tC (.int i)):=by obtain⟨t,hm⟩:=hm;exact zK a hm ⟨t,rfl⟩ hd
theorem qo{X:Cx}{x:Str}{z:Str}{b:Pos}(hm:∃t,X.mg x=some (.str z t))(a:Gl X x)(hd:(x==("__debug__":Str))=false:=by decide):PE X (.Name x b) (tC (.str z)):=by obtain⟨t,hm⟩:=hm;exact zK a hm ⟨t,rfl⟩ hd
theorem gD{X:Cx}{x:Str}{a:Addr}{c:Pos}(hm:X.mg x=some (.ref a))(b:Gl X x)(hd:(x==("__debug__":Str))=false:=by decide):PE X (.Name x c) (tC (.ref a)):=zK b hm rfl hd
theorem uV{X:Cx}{x:Str}{n:String}{b:Pos}(hm:X.mg x=none)(hv:bootBuiltins x=some (.type n))(a:Gl X x)(hn:x≠"__name__":=by decide)(hd:(x==("__debug__":Str))=false:=by decide):PE X (.Name x b) (tC (.ty n)):=NO a hm hv rfl hn hd
noncomputable def Kz(outer:List (Str×NameKind))(N N':List Str)(own:Nat)(fr:List Nat)(scope:Scope):Bool:=scope.names.all (λy=>y.2 != .cell&&(y.2 != .local||scope.names.lookup y.1==some .local)&&(y.2 != .free||outer.lookup y.1==some .cell||outer.lookup y.1==some .free))&&decide (N'.length=own+fr.length)&&(List.range fr.length).all (λj=>match fr[j]? with
 |some i=>match N'[own+j]? with|some x=>N[i]?==some x&&scope.names.lookup x==some .free|none=>false
 |none=>true)
theorem fY{X:Cx}{N N':List Str}{own:Nat}{fr:List Nat}{sc scope:Scope}(f:X.env.scope=sc)(c:X.N=N)(d:scope.kind= .function)(h:Kz sc.names N N' own fr scope=true):lV X N' own fr scope:=by
 unfold Kz at h;simp only[bF,List.all_eq_true,decide_eq_true_eq]at h;obtain⟨⟨h1,h2⟩,h3⟩:=h;subst c;refine⟨d,λy a=>?_,λy a e=>?_,λy a e=>?_,h2,λj i e=>?_⟩;·simpa using(h1 y a).1.1
 ·have :=(h1 y a).1.2;simpa[e]using this
 ·have :=(h1 y a).2;unfold Env.kindOf;rw[f];simpa[e]using this
 ·have hj:j<fr.length:=(List.getElem?_eq_some_iff.mp e).1;have :=h3 j (by simpa using hj);rw[e]at this;cases b:N'[own+j]? with|none=>simp[b]at this|some x=>simp only[b,bF,beq_iff_eq]at this;exact⟨x,rfl,this.1,this.2⟩
theorem GH(a v:Value):argsOk "max" ⟨[a],[(Str.ofString "default",v)]⟩:=by unfold argsOk;kernel_rfl
section
variable{prog:Program}{w:World}{A:Around}{E:Value->Shared->Prop}{s:Shared}
theorem AS{id:String}{b:Builtin}{args:List Value}{a:List (Str×Value)}{Q:Value->Shared->Prop}(g:builtinKind id=none)(h:plainId id=true)(hb:entryFor table id=some b)(ha:argsOk id ⟨args,a⟩)(hc:wpAny (model prog w) A.in1 (b ⟨args,a⟩) (λfin s'=>match fin with| .done f=>(match(Except.ok f:Result)with| .ok (.ret v)=>Q v s'| .ok _=>False| .error e=>E e s')| .again c=>c.quiet=true/\codeAny (model prog w) A c (λr s'=>match r with| .ok (.ret v)=>Q v s'| .ok _=>False| .error e=>E e s') s') E s):wpAny (model prog w) A (call (.builtin id) args a) Q E s:=by refine wpAny_call (codeAny_call_builtin h hb ?_);simp only[checkBuiltinCall,g];cases i:Manifest.signature? id with|none=>exact zQ02 hc|some d=>simp only[argsOk,i]at ha;have h2:Bind.checkArgs id d ⟨args,a⟩=pure ():=ha;show wpAny _ A.in1 (Bind.checkArgs id d ⟨args,a⟩) _ _ s;rw[h2];exact zQ02 hc
theorem NG{i j:Int}{t u:Tok}{Q:Value->Shared->Prop}(h:Q (.bool (decide (i>j))) s):wpAny (model prog w) A (richCompare .Gt (.int i t) (.int j u)) Q E s:=richCompare_gives (op:= .Gt) (typeIs_int s _ t) (typeIs_int s _ u) F.slot_int_gt F.entry_int_gt (F.args_int_gt_2 _ _) (gives_int_gt _ _ t u) (λx=>nomatch x) h
end
noncomputable def IZ(m x:Int):Int:=if x>m then x else m
noncomputable def maxD(ns:List Int)(d:Int):Int:=match ns with|[]=>d|a::r=>r.foldl IZ a
def RG(ns:List Int)(j:Nat)(l:Array Value):Prop:=(j=0/\l=#[])\/(0<j/\∃t,l=#[.int (maxD (ns.take j) 0) t, .int (maxD (ns.take j) 0) t])
theorem HF{l:List Int}(x d:Int)(h:l≠[]):maxD (l++[x]) d=IZ (maxD l d) x:=by cases l with|nil=>exact absurd rfl h|cons a r=>simp[maxD,List.foldl_append]
section
variable{prog:Program}{w:World}{A:Around}{R:Result->Shared->Prop}{I:Addr}{fp wr:List Addr}{P:Nat->Value->Prop}{St:Nat->Heap->Prop}
theorem Ho{ns:List Int}{d:Value}(W:Walks prog w A.in1 I fp wr ns.length P St)(O:∀(i:Nat)v,P i v->∃x t,ns[i]?=some x/\v= .int x t)(S:Addr)(hSf:S∉fp):∀(k j:Nat)(s:Shared)(l:Array Value)(c:Nat),ns.length-j=k->j<=ns.length->St j s.heap->RG ns j l->s.heap.get? S=some {cls:= .type "list",dict:=none,data:= .seq l c,slots:=#[]}->(∀v h' tk,(ns=[]/\v=d\/ns≠[]/\∃t,v= .int (maxD ns 0) t)->(∀b o,b∉wr->b≠S->s.heap.get? b=some o->h'.get? b=some o)->R (.ok (.ret v)) {s with heap:=h',toks:=tk})->codeAny (model prog w) A (.builtin "max.loop" ⟨[.ref I, .none, .ref S],[(Str.ofString "default",d)]⟩) R s:=by
 have K:S∉wr:=λh=>hSf (W.sub _ h);have M:(toString "max"++toString ".loop":String)="max.loop":=by decide
 intro k;induction k with
  |zero=>
   intro j s l c T hj y hb hS m;have p:j=ns.length:=by lia
   refine codeAny_builtin F.entry_max_loop ?_;rw[Around.under_plainId F.plain_max_loop _];show wpAny _ A.in1 (seqItems? (.ref S)>>=_) _ _ s;refine zQ00 (wpAny_seqItems hS rfl ?_);rcases hb with⟨G,rfl⟩|⟨G,t,rfl⟩;·show wpAny _ A.in1 (tryCatch (pyNext (.ref I)) _>>=_) _ _ s;refine zQ00 (wpAny_tryCatch (W.done s _ _ (p▸y) λh' tk f=>?_));show wpAny _ A.in1 (rule _>>=_) _ _ _;refine zQ00 (wpAny_rule (zQ02 ?_));have e:ns=[]:=List.eq_nil_of_length_eq_zero (by lia);exact m d _ tk (.inl ⟨e,rfl⟩) λb o a g q=>f b o a q
   ·show wpAny _ A.in1 (tryCatch (pyNext (.ref I)) _>>=_) _ _ s;refine zQ00 (wpAny_tryCatch (W.done s _ _ (p▸y) λh' tk f=>?_));have hS':=f S _ K hS;show wpAny _ A.in1 (updateSeq S (λ_=>#[])>>=_) _ _ _;refine zQ00 ?_;refine wpAny_updateSeq hS' rfl (zQ00 (wpAny_letGo (zQ02 ?_)));have e:ns≠[]:=λz=>by rw[z]at p;simp at p;lia
    refine m _ _ tk (.inr ⟨e,t,by rw[p,List.take_length]⟩) λb o a g q=>(iW _ _ (Ne.symm g)).trans (f b o a q)
  |succ k N=>
   intro j s l c T hj y hb hS m;have hlt:j<ns.length:=by lia
   refine codeAny_builtin F.entry_max_loop ?_;rw[Around.under_plainId F.plain_max_loop _];show wpAny _ A.in1 (seqItems? (.ref S)>>=_) _ _ s;refine zQ00 (wpAny_seqItems hS rfl ?_);have Q:∀x,ns[j]?=some x->ns.take (j+1)=ns.take j++[x]:=λx C=>by rw[List.take_add_one,C];rfl
   rcases hb with⟨G,rfl⟩|⟨G,t,rfl⟩
   ·show wpAny _ A.in1 (tryCatch (pyNext (.ref I)) _>>=_) _ _ s;refine zQ00 (wpAny_tryCatch (W.item j s _ _ hlt y λv h' tk J H f=>?_));obtain⟨x,u,C,rfl⟩:=O j v J;have hS':=f S _ K hS;show wpAny _ A.in1 (updateSeq S (λ_=>#[.int x u, .int x u])>>=_) _ _ _;refine zQ00 ?_;refine wpAny_updateSeq hS' rfl ?_;rw[M];refine zQ02 ⟨plainId_quiet F.plain_max_loop _,N (j+1) _ _ _ (by lia) hlt (W.frame _ _ _ H λb L o e=>?_) (.inr ⟨by lia,u,?_⟩) (pk _ hS' rfl) λE n D B r=>?_⟩;·exact(iW _ _ (λh:S=b=>hSf (by rw[h];exact L))).trans e
    ·rw[Q x C,G];rfl
    ·exact m E n D B λb o a g e=>r b o a g ((iW _ _ (Ne.symm g)).trans (f b o a e))
   ·show wpAny _ A.in1 (tryCatch (pyNext (.ref I)) _>>=_) _ _ s;refine zQ00 (wpAny_tryCatch (W.item j s _ _ hlt y λv h' tk J H f=>?_));obtain⟨x,u,C,rfl⟩:=O j v J;have hS':=f S _ K hS;have ne:ns.take j≠[]:=λz=>by
     have :(ns.take j).length=0:=by rw[z];rfl
     rw[jx]at this;lia
    have em:maxD (ns.take (j+1)) 0=IZ (maxD (ns.take j) 0) x:=by rw[Q x C,HF x 0 ne]
    show wpAny _ A.in1 (tryCatch (holding [.int x u, .int x u] (richCompare .Gt (.int x u) (.int (maxD (ns.take j) 0) t)>>=_)) _>>=_) _ _ _;refine zQ00 (wpAny_tryCatch (fW (zQ00 (NG ?_))));refine zQ00 (fW (wpAny_truthy_bool ?_));refine zQ00 (wpAny_letGo (zQ02 ?_));by_cases hb:x>maxD (ns.take j) 0
    ·rw[decide_eq_true hb];simp only[if_true];refine zQ00 ?_;refine wpAny_updateSeq hS' rfl (zQ00 (wpAny_letGo ?_));rw[M];refine zQ02 ⟨plainId_quiet F.plain_max_loop _,N (j+1) _ _ _ (by lia) hlt (W.frame _ _ _ H λb L o e=>?_) (.inr ⟨by lia,u,?_⟩) (pk _ hS' rfl) λE n D B r=>?_⟩;·exact(iW _ _ (λh:S=b=>hSf (by rw[h];exact L))).trans e
     ·rw[em,IZ,if_pos hb]
     ·exact m E n D B λb o a g e=>r b o a g ((iW _ _ (Ne.symm g)).trans (f b o a e))
    ·rw[decide_eq_false hb];simp only[Bool.false_eq_true,if_false];refine zQ00 (wpAny_letGo ?_);rw[M];refine zQ02 ⟨plainId_quiet F.plain_max_loop _,N (j+1) _ _ c (by lia) hlt H (.inr ⟨by lia,t,?_⟩) hS' λE n D B r=>?_⟩;·rw[em,IZ,if_neg hb]
     ·exact m E n D B λb o a g e=>r b o a g (f b o a e)
end
theorem ints_get:∀{ns:List Int}{us:List Value},Vals (ns.map V.int) us->∀(i:Nat)(u:Value),us[i]?=some u->∃x t,ns[i]?=some x/\u= .int x t|[],_, .nil,i,u,e=>by simp at e|n::ns,_, .cons r t,0,u,e=>by obtain⟨tk,r⟩:=r;simp at e;exact⟨n,tk,rfl,by rw[<-e,r]⟩|n::ns,_, .cons r t,i+1,u,e=>by simpa using ints_get t i u (by simpa using e)
section
variable{X:Cx}{pins:List (Addr×Obj)}{σ:L2.St}{H:Hp}{s:Shared}
theorem Iu{p:Addr}{ns:List Int}{i:Int}{v:Value}{Q:VK}(hc:X.calm=true)(I:Inv X pins σ H s)(hq:aZ X.K H p (ns.map V.int))(B:RelV (.int i) v)(q:Q (.int (maxD ns i)) H):wpAny (model X.prog X.w) X.A (call (.builtin "max") [.ref p] [(Str.ofString "default",v)]) (EP X pins σ Q) X.xe s:=by
 obtain⟨its,r,pl,C⟩:=I.list hq;have hl:=pl.isList;have lt:p<s.heap.objs.size:=by obtain⟨o,e,_⟩:=hl;exact zQ09 e
 have y:∀a,X.A.in1.handled=some (.ref a)->a≠s.heap.objs.size:=λa c=>by
  rcases I.hb hc with z|⟨b,oe,vs,h,k,_⟩;·rw[show X.A.in1.handled=X.A.handled from rfl,z]at c;cases c
  ·rw[show X.A.in1.handled=X.A.handled from rfl,h]at c;cases c;exact zQ18 (zQ09 k)
 have x:(toString "max"++toString ".loop":String)="max.loop":=by decide
 refine AS F.kind_max F.plain_max F.entry_max (GH _ _) ?_;show wpAny _ X.A.in1 (Builtin.Builtins.bindParams "max" ["key","default"] 0 ⟨[],[(Str.ofString "default",v)]⟩>>=_) _ _ s;refine zQ00 (wpAny_of_eq (show Builtin.Builtins.bindParams "max" ["key","default"] 0 ⟨[],[(Str.ofString "default",v)]⟩=pure [none,some v]from rfl) ?_);refine zQ00 (zQ02 ?_);refine zQ00 (wpAny_pyIter_list hl ?_);refine zQ00 (jV ?_);have len:its.toArray.size=ns.length:=by rw[cC,<-r.length,bD]
 have l:=rA (prog:=X.prog) (w:=X.w) (A:=X.A.in1) s.heap.objs.size p (zQ18 lt) its.toArray y;rw[len]at l;rw[x];have m:((s.heap.push {cls:= .type "list_iterator",data:= .fields #[.ref p, .int 0 0]}).objs.size)∉s.heap.objs.size::p::nq X.A.in1:=by
  rw[zQ27];intro z;rcases List.mem_cons.mp z with z|z;·exact Nat.succ_ne_self _ z
  ·rcases List.mem_cons.mp z with z|z;·rw[<-z]at lt;exact Nat.not_succ_lt_self lt
   ·have g:=ub z;rcases I.hb hc with q|⟨b,oe,vs,h,k,_⟩;·rw[show X.A.in1.handled=X.A.handled from rfl,q]at g;cases g
    ·rw[show X.A.in1.handled=X.A.handled from rfl,h]at g;cases g;exact Nat.not_succ_lt_self (zQ09 k)
 refine zQ02 ⟨plainId_quiet F.plain_max_loop _,Ho (d:=v) l (λj u e=>ints_get r j u (by simpa using e)) _ m _ 0 _ #[] _ rfl (zQ25 _) ?_ (.inl ⟨rfl,rfl⟩) (zQ12 _ rfl) λu h' tk hv n=>?_⟩;·exact⟨⟨_,zQ01 _ (zQ12 _ rfl),rfl,rfl⟩,(hl.push _).push _,(I.hb hc).mono λa o _ eo=>zQ01 _ (zQ01 _ eo)⟩
 ·refine⟨.int (maxD ns i),H,I.kept (h':=h') (t':=tk) λb o f=>n b o (λhm=>?_) (λhm=>?_) (zQ01 _ (zQ01 _ f)),?_,q⟩;·rw[List.mem_singleton.mp hm]at f;exact Nat.lt_irrefl _ (zQ09 f)
  ·have :=zQ09 f;rw[hm,zQ27]at this;exact Nat.not_succ_lt_self this
  ·rcases hv with⟨rfl,rfl⟩|⟨hne,t,rfl⟩;·exact B
   ·refine⟨t,?_⟩;cases ns with|nil=>exact absurd rfl hne|cons a r=>rfl
end
noncomputable def Wl(K:PySem.W.Frag)(t tk:TA):TE:=λσ H Q=>t σ H λvs b=>tk σ b λc a=>∃p ns i,vs=[.ref p]/\c=[.int i]/\aZ K a p (ns.map V.int)/\Q (.int (maxD ns i)) a
theorem FY{X:Cx}{e d:Expr}{t tk:TA}{p kp a:Pos}(hm:X.mg "max"=none)(ha:PA X [e] t)(j:PK X [⟨some (Str.ofString "default"),d,kp⟩] tk)(hc:X.calm=true:=by rfl)(g:Gl X "max":=by rfl)(he:starEach [e] X.env=[(false,eval e X.env)]:=by rfl):PE X (.Call (.Name "max" p) [e] [⟨some (Str.ofString "default"),d,kp⟩] a) (Wl X.K t tk):=by intro pins s σ H Q I h;refine wpAny_Call_Name_kw (gS I g hm CC ?_);refine callWith_kw (bE (ha a pins s σ H _ I h) λus s1⟨vs,b,c,k,q1⟩=>bE (j a pins s1 σ b _ c q1) λws s2⟨r,o,f,l,q2⟩=>?_) (by rw[he];rfl) (by rw[he];rfl);obtain⟨p,ns,i,rfl,rfl,hq,q⟩:=q2;obtain⟨u,rfl,m⟩:=k.one;cases m;obtain⟨v,rfl,n⟩:=l.one;exact Iu hc f hq n q
theorem lR{H a:Hp}{p:Addr}{o:HO}(h:aE H a)(c:H p=none):aE H (upd a p o):=λb u q=>by rw[aP (ay q c)];exact h b u q
theorem B6{J:It}{p:Addr}{k:Hp}{g:TG}{z:TT}{w:TE}{b:L2.St}{C:Hp->Prop}(n:Nat)(f:Nat->Option V)(s:k p=none)(hn:n<=sizeLine)(D:∀i a,i<n->aE k a->J.go i a/\∀x h,J.An i a x h->∀(R:V->Hp->Prop)(r:Hp->Prop),(∀v j,f i=some v->aE a j->R v j)->(∀d,f i=none->aE a d->r d)->g x b h λo q=>z o q λok d=>if ok=true then w o d R else r d)(hd:∀a,aE k a->a p=some (.lst ((List.range n).filterMap f))->J.stop n a/\C a):∃W:Nat->Nat->List V->Hp->Prop,(∃m,W 0 m [] (upd k p (.lst [])))/\∀i m c a,W i m c a->(J.stop i a/\C a)\/(J.go i a/\∀x h,J.An i a x h->g x b h λo q=>z o q λok d=>if ok=true then w o d λv j=>j p=some (.lst c)/\c.length<sizeLine/\∃l,l<m/\W (i+1) l (c++[v]) (upd j p (.lst (c++[v])))else∃l,l<m/\W (i+1) l c d):=by
 refine pV (Q:=λ_ H=>C H) n (λi c a=>c=(List.range i).filterMap f/\a p=some (.lst c)/\aE k a) ⟨rfl,ah,ao s _⟩ ?_ ?_
 ·rintro i c a hi⟨rfl,h2,s2⟩;obtain⟨A,B⟩:=D i a hi s2;have E:((List.range i).filterMap f).length<sizeLine:=by have :=List.length_filterMap_le f (List.range i);rw[List.length_range]at this;lia
  refine⟨A,λx h y=>B x h y _ _ (λv j e u=>⟨u _ _ h2,E,nx hi ⟨?_,ah,lR (s2.trans u) s⟩⟩) λd e t=>nx hi ⟨?_,t _ _ h2,s2.trans t⟩⟩;·rw[List.range_succ,List.filterMap_append];simp[e]
  ·rw[List.range_succ,List.filterMap_append];simp[e]
 ·rintro c a⟨rfl,h2,s2⟩;exact hd a s2 h2
theorem eG{J:It}{p:Addr}{h:Hp}{g:TG}{s:TE}{b:L2.St}{C:Hp->Prop}(n:Nat)(f:Nat->V)(q:h p=none)(hn:n<=sizeLine)(w:∀i a,i<n->aE h a->J.go i a/\∀x d,J.An i a x d->∀(R:V->Hp->Prop),(∀e,aE a e->R (f i) e)->g x b d λk l=>s k l R)(hd:∀a,aE h a->a p=some (.lst ((List.range n).map f))->J.stop n a/\C a):∃W:Nat->Nat->List V->Hp->Prop,(∃m,W 0 m [] (upd h p (.lst [])))/\∀i m c a,W i m c a->(J.stop i a/\C a)\/(J.go i a/\∀x d,J.An i a x d->g x b d λk l=>Ir k l λok o=>if ok=true then s k o λv e=>e p=some (.lst c)/\c.length<sizeLine/\∃j,j<m/\W (i+1) j (c++[v]) (upd e p (.lst (c++[v])))else∃j,j<m/\W (i+1) j c o):=by
 refine pV (Q:=λ_ H=>C H) n (λi c a=>c=(List.range i).map f/\a p=some (.lst c)/\aE h a) ⟨rfl,ah,ao q _⟩ ?_ ?_;·rintro i c a hi⟨rfl,h2,s2⟩;obtain⟨t,u⟩:=w i a hi s2;refine⟨t,λx d y=>?_⟩;simp only[Ir,if_true];refine u x d y _ λe r=>⟨r _ _ h2,by rw[bD,List.length_range];lia,nx hi ⟨?_,ah,lR (s2.trans r) q⟩⟩;rw[List.range_succ,eW];rfl
 ·rintro c a⟨rfl,h2,s2⟩;exact hd a s2 h2
end L3
end
section
namespace HT
open PySem PyProof.Rows
section
open PySem.SeqAt
open PySem.AutoSeq1(wpAny_loadPart')
open PySem.MeetsSeq PySem.MeetsSeq2 PySem.MeetsSeq3
variable{prog:Program}{w:World}{A:Around}{E:Value->Shared->Prop}{s:Shared}
theorem jU{t sl:Addr}{items:Array Value}{b c:Value}{lo hi:Option Int}{Q:Value->Shared->Prop}(ht:IsTup s.heap t items)(a:s.heap.IsSliceOf sl b c .none)(pl:IsPart b lo)(i:IsPart c hi)(h1:cN items.size 0 lo=0)(h2:cN items.size items.size hi=items.size)(h:Q (.ref t) s):wpAny (model prog w) A (getItem (.ref t) (.ref sl)) Q E s:=by
 obtain⟨os,f,e,j⟩:=id a;have d:s.TypeIs (.ref sl) "slice":=⟨os,f,e⟩;unfold getItem;try with_reducible refine fW ?_
 first|refine zQ00 (zQ02 ?_)|skip
 refine zQ00 (wpAny_sequenceKey ht.typeIs (by decide) ?_);refine zQ00 (wpAny_callSpecial?_slot (name:=Str.ofString "__getitem__") ht.typeIs PyProof.Rows.slot_tuple_getitem (gP PyProof.Rows.slot_tuple_getitem ht.typeIs entry_tuple_getitem ?_ (args_tuple_getitem _ _)));show wpAny _ _ (Builtin.Tuple.tupleItemsOf (.ref t)>>=_) _ _ s;refine zQ00 (tupleItemsOf_ ht ?_);refine zQ00 (wpAny_typeOf d ?_);rw[if_pos (by decide)];refine zQ00 (hW a pl i ?_);have g:(((cN items.size 0 lo:Nat):Int)==0&&(1:Int)==1&&(cN items.size items.size hi-cN items.size 0 lo)==items.size)=true:=by rw[h1,h2];simp
 show wpAny _ _ (if(((cN items.size 0 lo:Nat):Int)==0&&(1:Int)==1&&(cN items.size items.size hi-cN items.size 0 lo)==items.size)=true then _ else _) _ _ s;rw[if_pos g];show wpAny _ _ (Builtin.Tuple.tupleIsExact (.ref t)>>=_) _ _ s;refine zQ00 ?_;unfold Builtin.Tuple.tupleIsExact;refine zQ00 (wpAny_typeOf ht.typeIs (zQ02 ?_));rw[if_pos (by decide)];exact zQ00 (wpAny_rule (zQ02 ⟨_,rfl,zQ02 h⟩))
end
end HT
end
section
namespace L3
open PySem PySem.Spec PyProof.Rows L2
noncomputable def ZR(K:PySem.W.Frag):V->Option Int->Option Int->Hp->VK->Prop:=λx lo hi H Q=>∃a xs,x= .ref a/\cu K H a xs/\(∀p,H p=none->Q (.ref p) (upd H p (.tup (iA xs lo hi))))/\(iA xs lo hi=xs->Q (.ref a) H)
theorem qq{X:Cx}:Zf X (ZR X.K):=by
 intro pins s σ H x v f g lo hi sl Q I e b pl d h;obtain⟨a,xs,rfl,c,q1,q2⟩:=h;by_cases hw:HT.cN xs.length 0 lo=0/\HT.cN xs.length xs.length hi=xs.length
 ·cases e;obtain⟨its,r,ht,i⟩:=I.tuple c;have hlen:its.toArray.size=xs.length:=by rw[cC];exact r.length.symm
  refine⟨"tuple",_,PyProof.Rows.slot_tuple_getitem.lookup,ht.typeIs,?_⟩;refine HT.jU ht b pl d (by rw[hlen];exact hw.1) (by rw[hlen];exact hw.2) ⟨.ref a,H,I,rfl,q2 ?_⟩;unfold iA;rw[hw.1,hw.2,List.drop_zero,Nat.sub_zero,List.take_length]
 ·exact S_ pins s σ H _ v f g lo hi sl Q I e b pl d ⟨a,xs,rfl,c,hw,q1⟩
theorem gY(xs:List V)(k:Nat):iA xs (some (k:Int)) none=xs.drop k:=by
 unfold iA;rw[HT.BE,HT.pW];by_cases h:k<=xs.length;·rw[Nat.min_eq_left h];exact rY (by rw[jP];lia)
 ·rw[Nat.min_eq_right (by lia),List.drop_eq_nil_of_le (zQ04 _),List.drop_eq_nil_of_le (show xs.length<=k by lia)];simp
theorem Ea(xs:List V)(k:Nat):iA xs none (some (k:Int))=xs.take k:=by
 unfold iA;rw[HT.BE,HT.pW,List.drop_zero,Nat.sub_zero];by_cases h:k<=xs.length;·rw[Nat.min_eq_left h]
 ·rw[Nat.min_eq_right (by lia),rY (zQ04 _),rY (show xs.length<=k by lia)]
section
variable{X:Cx}{K:PySem.W.Frag}
theorem Ae(a:X.K=K:=by rfl):gm X (.builtin "isinstance") (λxs H Q=>∃x t n b,xs=[x, .ty n]/\kg K H x t/\PySem.W.kitOne K t (.type n)=some b/\Q (.bl b) H):=by subst a;exact dU
theorem uq(a:X.K=K:=by rfl):jH X (compareOp .NotIn) (rIn K true):=by subst a;exact yc
end
theorem MK{X:Cx}:jH X (binaryOp .Mult) (λx y H Q=>∃z n,x= .str z/\y= .int n/\MulOk z n/\Q (.str (Txt.mul z n)) H):=by intro pins s σ H x y v u Q I a b h;obtain⟨z,n,rfl,rfl,hm,q⟩:=h;obtain⟨t,rfl⟩:=a;obtain⟨t',rfl⟩:=b;exact SB.mul hm λt' k=>⟨.str (Txt.mul z n),H,I.tok k,⟨t',rfl⟩,q⟩
theorem El{b:Type}{xs:List b}{m:Int}(c:Int)(h:(xs.length:Int)=m)(a:0<m):∃v,lJ xs (c%m)=some v/\v∈xs:=by
 have d:0<=c%m:=Int.emod_nonneg _ (by lia);have i1:c%m<m:=Int.emod_lt_of_pos _ a;have hi:(c%m).toNat<xs.length:=by lia
 have e:c%m=(((c%m).toNat:Nat):Int):=by lia
 have h:lJ xs (((c%m).toNat:Nat):Int)=some xs[(c%m).toNat]:=aR (zQ03 hi);exact⟨xs[(c%m).toNat],(congrArg (lJ xs) e).trans h,List.getElem_mem hi⟩
noncomputable def pK:List Nat->Nat|[]=>0|a::r=>max a (pK r)
theorem AF:∀(l:List Nat)(a:Nat),(l.map λ(n:Nat)=>(n:Int)).foldl IZ (a:Int)=((max a (pK l):Nat):Int)
 |[],a=>by simp[pK]
 |b::l,a=>by
  rw[cD,List.foldl_cons];have e:IZ (a:Int) (b:Int)=((max a b:Nat):Int):=by unfold IZ;split<;>lia
  rw[e,AF l,pK];congr 1;exact Nat.max_assoc _ _ _
theorem IX(l:List Nat):maxD (l.map λ(n:Nat)=>(n:Int)) 0=((pK l:Nat):Int):=by cases l with|nil=>rfl|cons a r=>show(r.map λ(n:Nat)=>(n:Int)).foldl IZ (a:Int)=_;rw[AF];rfl
end L3
end
section
namespace L3
open PySem PySem.Spec L2
variable{K:PySem.W.Frag}
def Nk(K:PySem.W.Frag)(a:Addr)(xs:List V):Prop:=∃(o:Obj)(its:Array Value)(n:Nat),K.lookup a=some o/\o.cls= .type "tuple"/\o.data= .seq its n/\its.size<=sizeLine/\Vals xs its.toList
structure KD(K:PySem.W.Frag)(a:Addr)(rows:List (Str×List V))(as:List Addr):Prop where
 len:as.length=rows.length
 tab:ic K a ((rows.zip as).map λp=>(p.1.1,V.ref p.2))
 sq:∀p∈rows.zip as,Nk K p.2 p.1.2
theorem jG{d g:Type}{x:Str}(f:(Str×d)×g->V):∀(rows:List (Str×d))(as:List g),as.length=rows.length->(∃r a,(r,a)∈rows.zip as/\r.1=x/\rows.lookup x=some r.2/\PyProof.Rows.KTD.datumAt x ((rows.zip as).map λp=>(p.1.1,f p))=some (f (r,a)))\/(rows.lookup x=none/\PyProof.Rows.KTD.datumAt x ((rows.zip as).map λp=>(p.1.1,f p))=none)
 |[],_,_=> .inr ⟨rfl,rfl⟩
 |(k,v)::rows,[],h=>by simp at h
 |(k,v)::rows,a::as,h=>by
  have i:=jG (x:=x) f rows as (by simpa using h);by_cases e:x=k;·subst e;exact .inl ⟨(x,v),a,bI,rfl,by simp[List.lookup],by simp[PyProof.Rows.KTD.datumAt]⟩
  ·have c:(x==k)=false:=by simpa using e
   have j:¬k=x:=λz=>e z.symm;rcases i with⟨r,b,h1,h2,h3,h4⟩|⟨h1,h2⟩;·exact .inl ⟨r,b,ck _ h1,h2,by rw[jk,c];exact h3,by simp only[List.zip_cons_cons,cD,PyProof.Rows.KTD.datumAt,e,decide_false,Bool.false_eq_true,if_false];exact h4⟩
   ·exact .inr ⟨by rw[jk,c];exact h1,by simp only[List.zip_cons_cons,cD,PyProof.Rows.KTD.datumAt,e,decide_false,Bool.false_eq_true,if_false];exact h2⟩
theorem KD.some{a:Addr}{rows:List (Str×List V)}{as:List Addr}(T:KD K a rows as){x:Str}{ds:List V}(h:rows.lookup x=Option.some ds):∃b,PyProof.Rows.KTD.datumAt x ((rows.zip as).map λp=>(p.1.1,V.ref p.2))=Option.some (.ref b)/\∀H,cu K H b ds:=by
 rcases jG (x:=x) (λp=>V.ref p.2) rows as T.len with⟨r,b,h1,h2,h3,h4⟩|⟨h1,_⟩;·rw[h]at h3;cases h3;exact⟨b,h4,λH=> .inr (T.sq _ h1)⟩
 ·rw[h]at h1;cases h1
theorem KD.fQ{a:Addr}{rows:List (Str×List V)}{as:List Addr}(T:KD K a rows as)(x:Str):L3.fQ x ((rows.zip as).map λp=>(p.1.1,V.ref p.2))=(rows.lookup x).isSome:=by
 unfold L3.fQ;rcases jG (x:=x) (λp=>V.ref p.2) rows as T.len with⟨r,b,h1,h2,h3,h4⟩|⟨h1,h2⟩;·rw[h3,h4];rfl
 ·rw[h1,h2];rfl
noncomputable def aW:List V->List Value->Bool|[],[]=>true| .str x::vs, .str y _::us=>decide (x=y)&&aW vs us| .int i::vs, .int j _::us=>decide (i=j)&&aW vs us|_,_=>false
theorem kl:∀{vs:List V}{us:List Value},aW vs us=true->Vals vs us|[],[],_=> .nil| .str x::vs, .str y t::us,h=>by simp only[aW,bF,decide_eq_true_eq]at h;obtain⟨rfl,h⟩:=h;exact .cons ⟨t,rfl⟩ (kl h)| .int x::vs, .int y t::us,h=>by simp only[aW,bF,decide_eq_true_eq]at h;obtain⟨rfl,h⟩:=h;exact .cons ⟨t,rfl⟩ (kl h)|[],_::_,h=>by simp[aW]at h|_::_,[],h=>by simp[aW]at h| .bA::_,_::_,h=>by simp[aW]at h| .bl _::_,_::_,h=>by simp[aW]at h| .Gx _::_,_::_,h=>by simp[aW]at h| .PQ _::_,_::_,h=>by simp[aW]at h| .ref _::_,_::_,h=>by simp[aW]at h| .ty _::_,_::_,h=>by simp[aW]at h| .str _::_, .none::_,h=>by simp[aW]at h| .str _::_, .int _ _::_,h=>by simp[aW]at h| .str _::_, .ref _::_,h=>by simp[aW]at h| .str _::_, .bool _::_,h=>by simp[aW]at h| .str _::_, .float _ _::_,h=>by simp[aW]at h| .str _::_, .bytes _ _::_,h=>by simp[aW]at h| .str _::_, .type _::_,h=>by simp[aW]at h| .str _::_, .builtin _::_,h=>by simp[aW]at h| .str _::_, .ellipsis::_,h=>by simp[aW]at h| .str _::_, .notImplemented::_,h=>by simp[aW]at h| .int _::_, .none::_,h=>by simp[aW]at h| .int _::_, .str _ _::_,h=>by simp[aW]at h| .int _::_, .ref _::_,h=>by simp[aW]at h| .int _::_, .bool _::_,h=>by simp[aW]at h| .int _::_, .float _ _::_,h=>by simp[aW]at h| .int _::_, .bytes _ _::_,h=>by simp[aW]at h| .int _::_, .type _::_,h=>by simp[aW]at h| .int _::_, .builtin _::_,h=>by simp[aW]at h| .int _::_, .ellipsis::_,h=>by simp[aW]at h| .int _::_, .notImplemented::_,h=>by simp[aW]at h
noncomputable def cf(vs:List V)(its:Array Value):Bool:=aW vs its.toList&&decide (its.size<=100)
theorem cF{K:PySem.W.Frag}{a:Addr}{d:Option Addr}{its:Array Value}{n:Nat}{sl:Array (Option Value)}{vs:List V}(h:K.lookup a=some ⟨.type "tuple",d, .seq its n,sl⟩)(c:cf vs its=true):Nk K a vs:=by simp only[cf,bF,decide_eq_true_eq]at c;exact⟨_,its,n,h,rfl,rfl,cw c.2 (by decide),kl c.1⟩
noncomputable def iJ:List DictEntry->List Str->Bool|[],[]=>true|e::es,k::ks=>(match e.key,e.val with| .str x _, .ref _=>decide (x=k)|_,_=>false)&&iJ es ks|_,_=>false
noncomputable def refsOf(es:List DictEntry):List Addr:=es.map λe=>match e.val with| .ref a=>a|_=>0
theorem FZ:∀{es:List DictEntry}{ks:List Str},iJ es ks=true->PyProof.Rows.KTD.Rows RelV es ((ks.zip (refsOf es)).map λp=>(p.1,V.ref p.2))
 |[],[],_=> .nil
 |[],_::_,h=>by simp[iJ]at h
 |_::_,[],h=>by simp[iJ]at h
 |e::es,k::ks,h=>by
  obtain⟨c,a,val⟩:=e;rw[iJ,bF]at h;cases a with
   |str x t=>
    cases val with
     |ref b=>
      have h1:x=k:=by simpa using h.1
      subst h1;exact .cons rfl rfl (FZ h.2)
     |_=>simp at h
   |_=>simp at h
theorem U1{a:Addr}{es:Array DictEntry}{ep:Nat}{rows:List (Str×List V)}{as:List Addr}(d:(a==sysModules)=false)(b:K.lookup a=some ⟨.type "dict",none, .dict es ep,#[]⟩)(ks:iJ es.toList (rows.map (·.1))=true)(c:refsOf es.toList=as)(hl:as.length=rows.length)(sq:∀p∈rows.zip as,Nk K p.2 p.1.2):KD K a rows as:=by refine⟨hl,⟨d,_,es,ep,b,⟨rfl,rfl,rfl⟩,rfl,?_⟩,sq⟩;have h:=FZ ks;rw[c,List.zip_map_left,List.map_map]at h;exact h
theorem bU{r:Str×List V}{b:Addr}{rows:List (Str×List V)}{as:List Addr}(h:Nk K b r.2)(t:∀p∈rows.zip as,Nk K p.2 p.1.2):∀p∈(r::rows).zip (b::as),Nk K p.2 p.1.2:=λp a=>by
 rcases List.mem_cons.mp a with rfl|a;·exact h
 ·exact t p a
theorem Tu:∀p∈([]:List (Str×List V)).zip ([]:List Addr),Nk K p.2 p.1.2:=λp a=>by simp at a
noncomputable def iu:List DictEntry->List (Str×Int)->Bool|[],[]=>true|e::es,(k,i)::ks=>(match e.key,e.val with| .str x _, .int j _=>decide (x=k)&&decide (j=i)|_,_=>false)&&iu es ks|_,_=>false
theorem rF:∀{es:List DictEntry}{ks:List (Str×Int)},iu es ks=true->PyProof.Rows.KTD.Rows RelV es (ks.map λp=>(p.1,V.int p.2))
 |[],[],_=> .nil
 |[],_::_,h=>by simp[iu]at h
 |_::_,[],h=>by simp[iu]at h
 |e::es,(k,i)::ks,h=>by
  obtain⟨c,a,val⟩:=e;rw[iu,bF]at h;cases a with
   |str x t=>
    cases val with
     |int b u=>
      have h1:x=k/\b=i:=by simpa using h.1
      obtain⟨rfl,rfl⟩:=h1;exact .cons rfl ⟨u,rfl⟩ (rF h.2)
     |_=>simp at h
   |_=>simp at h
theorem MT{a:Addr}{es:Array DictEntry}{ep:Nat}{rows:List (Str×Int)}(c:(a==sysModules)=false)(b:K.lookup a=some ⟨.type "dict",none, .dict es ep,#[]⟩)(ks:iu es.toList rows=true):ic K a (rows.map λp=>(p.1,V.int p.2)):=⟨c,_,es,ep,b,⟨rfl,rfl,rfl⟩,rfl,rF ks⟩
end L3
end
section
namespace L3
open PySem PySem.Spec PyProof.Rows L2
structure MadeX(h h':Heap)(e C:Addr)(hh:Option Value):Prop where
 keeps:∀b o,h.get? b=some o->h'.get? b=some o
 new:h.get? e=none
 there:∃oe vs t c,h'.get? e=some oe/\oe.cls= .ref C/\oe.data= .fields vs/\vs[0]?=some (.ref t)/\vs[1]?=some .none/\vs[2]?=some c/\(hh=none->c= .none)
section
variable{prog:Program}{w:World}{A:Around}{E:Value->Shared->Prop}{s:Shared}
theorem GX{g:Type}{Q:g->Shared->Prop}{h₀:Heap}{e C:Addr}{vs:List Value}(hb:HB h₀ A)(hm:Heap.MadeExcOf h₀ s.heap e (.ref C) vs)(f:∀h',MadeX h₀ h' e C A.handled->E (.ref e) {s with heap:=h'}):wpAny (model prog w) A (raiseNew (.ref e):Sem g) Q E s:=by
 obtain⟨t,he,_,_⟩:=hm.there;simp only[raiseNew];refine zQ00 (wpAny_handled ?_);rcases hb with hb|⟨a,oe,ws,hb,c,h,i⟩;·rw[hb];refine zQ00 (zQ02 (wpAny_throw (f s.heap ⟨hm.keeps,hm.new,_,_,t,_,he,rfl,rfl,rfl,rfl,rfl,λ_=>rfl⟩)))
 ·rw[hb];have ne:a≠e:=λz=>by rw[z,hm.new]at c;cases c
  dsimp only;rw[if_pos (by simpa using ne)];refine zQ00 (fW (A_ (hm.keeps _ _ c) h i ?_));refine zQ00 ?_;show wpAny (model prog w) A (setField (.ref e) 2 (.ref a)) _ _ _;refine wpAny_setField he rfl (by simp) (wpAny_throw (f _ ⟨λb o d=>?_,hm.new,_,_,t, .ref a,pk _ he (Obj.isFreed_of_fields (Obj.data_mapFields rfl _)),Obj.cls_mapFields _ _,Obj.data_mapFields rfl _,by simp,by simp,by simp,λz=>by rw[hb]at z;cases z⟩));rw[iW _ _ λz=>by rw[<-z,hm.new]at d;cases d];exact hm.keeps b o d
end
def tJ(K:PySem.W.Frag)(C:Addr):Prop:=∃a newId b,ExcBaseFacts "ValueError" newId b a/\PySem.W.excIn K C a newId=true
theorem AQ{K:PySem.W.Frag}{h:Heap}{C:Addr}{k:List Value}{newId:String}(X:K.In h)(q:PySem.W.excIn K C k newId=true):∃bm N nm i bs s j sub f g dd a b c d e r,h.get? C=some (excClassObj nm i C N bs bm s j sub f g dd a b c d e newId)/\h.Ns N r/\r "__init__"=none/\OwnTail h k bm:=by
 unfold PySem.W.excIn at q;split at q
 ·rename_i dd cd sl ho;split at q
  ·rename_i u bm a b c d n e hm p;simp only[bF,beq_iff_eq,Bool.not_eq_true']at q;obtain⟨⟨⟨⟨⟨rfl,rfl⟩,m⟩,ht⟩,bT⟩,o⟩:=q;obtain⟨nm,bs,mro,ns,i,hd,j,sub,f,g,v⟩:=cd;dsimp only at hm m bT o;subst hm m;have t:sl=#[a,b,c,d,some (.builtin n),e]:=by obtain⟨l⟩:=sl;simp only at p;rw[p]
   subst t;exact⟨bm,ns,nm,i,bs,hd,j,sub,f,g,dd,a,b,c,d,e,_,X _ _ ho, .of_isNs (PySem.W.isNs_of_in X bT),PySem.W.nsMap_none_of_in X bT o,PySem.W.tail_of_in X ht⟩
  ·cases q
 ·cases q
noncomputable def Sd(G:Hp->Prop)(t:TA):TS:=λD σ H=>t σ H λvs a=>vs.length<=100/\G a
theorem dH{X:Cx}{G:Hp->Prop}{x:Str}{C:Addr}{a:Expr}{t:TA}{m dA W:Pos}(z:tJ X.K C)(hm:X.mg x=some (.ref C))(ha:PA X [a] t)(K:∀pins σ H s e h',Inv X pins σ H s->MadeX s.heap h' e C X.A.handled->G H->X.xe (.ref e) {s with heap:=h'})(hc:X.calm=true:=by rfl)(F:Gl X x:=by rfl)(B:(x==("__debug__":Str))=false:=by decide)(he:starEach [a] X.env=[(false,eval a X.env)]:=by rfl):PS X (.Raise (some (.Call (.Name x m) [a] [] dA)) none W) (Sd G t):=by
 intro pins s σ H D I h;obtain⟨Um,newId,ID,FB,q⟩:=z;have S:wpAny (model X.prog X.w) X.A (eval (.Call (.Name x m) [a] [] dA) X.env) (λv s₁=>∃e t h₀ vs,v= .ref e/\X.K.In s₁.heap/\s₁.heap.get? e=some {cls:= .ref C,data:= .fields #[.ref t, .none, .none, .none, .bool false, .none]}/\HB h₀ X.A/\Heap.MadeExcOf h₀ s₁.heap e (.ref C) vs/\∀h',MadeX h₀ h' e C X.A.handled->X.xe (.ref e) {s₁ with heap:=h'}) X.xe s:=by refine wpAny_Call_Name_kw (jK I F hm ?_ B);have l:=ha dA pins s σ H _ I h;rw[he]at l⊢;unfold callWith;refine zQ00 (fW (Calls.evalArgs_plain (bE l λus s1⟨vs,n,f,r,hl,g⟩=>zQ00 (wpAny_standAt ?_))));obtain⟨bm,N,nm,Y,bs,E,Z,sub,o,p,dd,M,O,P,Q,R,U,b,i,j,T⟩:=AQ f.jl q;have hb:=f.hb hc;have J:=K pins σ n s1;have Ez:=f.jl;obtain⟨k,u,d,tk,os⟩:=s1;show wpAny _ _ (keeperOf (.ref C)>>=_) _ _ _;refine zQ00 (wpAny_keeperOf_exc b ?_);refine zQ00 (wpAny_call_exc_subT (hrest:=by rw[List.nil_append,<-r.length];exact cw hl (by decide)) FB T b i j λh' e c=>zQ00 (fW (wpAny_point (zQ02 ?_))));obtain⟨t,ht,_,_⟩:=c.there;exact⟨e,t,k,_,rfl,Ez.keeps c.keeps,ht,hb,c,λw V=>J e w f V g⟩
 rw[arm_exec_Raise];refine zQ00 (wpAny_standAt ?_);unfold raiseStmt;refine zQ00 (zQ00 (bE S λv s₁ L=>zQ00 (wpAny_standAt (zQ02 ?_))));obtain⟨e,t,h₀,vs,rfl,Ez,he',hb,c,y⟩:=L;obtain⟨bm,N,nm,Y,bs,E,Z,sub,o,p,dd,M,O,P,Q,R,U,b,i,j,T⟩:=AQ Ez q;have A:(Value.ref C::bm).contains (.type "BaseException")=true:=by rw[List.contains_cons,T.hasType FB.hasBase,Bool.or_true]
 obtain⟨k,u,d,tk,os⟩:=s₁;repeat(first|with_reducible refine wpAny_loadPart_at he' ?_|with_reducible refine wpAny_loadPart_at b ?_|(with_reducible refine wpAny_isSubtype_exc b ?_;rw[A])|wp_step)
 exact GX hb c y
def Ex(h:Heap)(a C:Addr)(T c:Value):Prop:=∃oe vs a0,h.get? a=some oe/\oe.cls= .ref C/\oe.data= .fields vs/\vs[0]?=some a0/\vs[1]?=some T/\vs[2]?=some c
def Tb(h:Heap)(T:Addr)(fl:Value):Prop:=∃a b,h.get? T=some a/\a.data= .fields b/\b[3]?=some fl
structure LD(fs:List Addr)(xs:List Addr)(h h':Heap):Prop where
 keep:∀b o,h.get? b=some o->b∉fs->b∉xs->h'.get? b=some o
 slot:∀b o,h.get? b=some o->b∈fs->b∉xs->∃sl,h'.get? b=some {o with slots:=sl}
section
variable{M:Model}{A:Around}{E:Value->Shared->Prop}{s:Shared}
theorem Xf{base:Heap}{l:List Env}{b:Addr}{o:Obj}{vs:Array Value}(hl:s.heap.FunFrames base l)(e:s.heap.get? b=some o)(d:o.data= .fields vs):b∉kJ l:=λhm=>by obtain⟨_,o',ho,a⟩:=hl.mem hm;rw[e]at ho;cases ho;exact a vs d
theorem u6{base:Heap}{env:Env}{outer:List Env}{L a C:Addr}{head T c:Value}{r:Bool}{Q:Unit->Shared->Prop}(u:A.frames=some (env::outer))(hl:s.heap.FunFrames base (env::outer))(t:env.frame=some L)(x:Ex s.heap a C T c)(h:∀h' g,Ex h' a C (.ref g) c->Tb h' g (rawInt L)->s.heap.get? g=none->g≠a->LD (kJ (env::outer)) [a] s.heap h'->Q () {s with heap:=h'}):wpAny M A (do let f<-frameOf env;let pl<-entryPlaceOf L r;let b<-EntryCells.newEntry head f .none (rawInt L) .none pl;setField (.ref a) 1 b) Q E s:=by
 obtain⟨oe,vs,a0,he,hc,hd,q,h1,h2⟩:=x;have hne:a∉kJ (env::outer):=Xf hl he hd;refine zQ00 (wpAny_frameOf_fun u hl t λd i=>zQ00 (wpAny_entryPlaceOf λpl l=>?_));unfold EntryCells.newEntry newFields;refine zQ00 (jV ?_ (l.sizeOk5 _ _ _ _ _));have k:d.get? a=some oe:=(i.2.1 a hne).trans he;have sz:d.objs.size=s.heap.objs.size:=i.1;have p:d.objs.size≠a:=Nat.ne_of_gt (zQ09 k);refine wpAny_setField (zQ01 _ k) hd (Array.getElem?_eq_some_iff.mp h1).1 (h _ d.objs.size ?_ ?_ ?_ p ?_)
 ·refine⟨_,_,a0,pk _ (zQ01 _ k) (Obj.isFreed_of_fields (Obj.data_mapFields hd _)),(Obj.cls_mapFields _ _).trans hc,Obj.data_mapFields hd _,?_,?_,?_⟩;·rw[Array.getElem?_setIfInBounds_ne (by decide)];exact q
  ·have :=(Array.getElem?_eq_some_iff.mp h1).1;simp[this]
  ·rw[Array.getElem?_setIfInBounds_ne (by decide)];exact h2
 ·refine⟨_,_,(iW _ _ (Ne.symm p)).trans (zQ12 _ rfl),rfl,?_⟩;first|(simp;done)|(rcases l with rfl|⟨_,_,_,_,_,_,_,rfl⟩<;>simp)
 ·rw[sz];exact Heap.get?_none_of_le (zQ04 _)
 ·refine⟨λb o e n m=>?_,λb o e n m=>?_⟩;·have j:d.get? b=some o:=(i.2.1 b n).trans e;rw[iW _ _ λz=>m (by simp[z])];exact zQ01 _ j
  ·obtain⟨sl,j⟩:=i.2.2 b o e;refine⟨sl,?_⟩;rw[iW _ _ λz=>m (by simp[z])];exact zQ01 _ j
theorem Dr{base:Heap}{env:Env}{outer:List Env}{L a C:Addr}{c:Value}{Q:Unit->Shared->Prop}(e:A.frames=some (env::outer))(hl:s.heap.FunFrames base (env::outer))(d:env.frame=some L)(x:Ex s.heap a C .none c)(h:∀h' b,Ex h' a C (.ref b) c->Tb h' b (rawInt L)->s.heap.get? b=none->b≠a->LD (kJ (env::outer)) [a] s.heap h'->Q () {s with heap:=h'}):wpAny M A (noteFrame (.ref a) env) Q E s:=by obtain⟨oe,vs,a0,he,hc,hd,f,h1,h2⟩:=id x;unfold noteFrame;simp only[d];refine zQ00 (dD he hd h1 ?_);rw[if_neg (by decide)];exact u6 e hl d x h
theorem HH{base:Heap}{env:Env}{outer:List Env}{L a C T:Addr}{c:Value}{Q:Unit->Shared->Prop}(r:A.frames=some (env::outer))(hl:s.heap.FunFrames base (env::outer))(j:env.frame=some L)(x:Ex s.heap a C (.ref T) c)(y:Tb s.heap T .none)(p:T≠a)(h:∀h' d,Ex h' a C (.ref d) c->Tb h' d (rawInt L)->s.heap.get? d=none->d≠a->LD (kJ (env::outer)) [a,T] s.heap h'->Q () {s with heap:=h'}):wpAny M A (noteFrame (.ref a) env) Q E s:=by
 obtain⟨oe,vs,a0,he,hc,hd,l,h1,h2⟩:=id x;obtain⟨D,u,hT,dT,h3⟩:=y;unfold noteFrame;simp only[j];refine zQ00 (dD he hd h1 ?_);rw[if_pos (show(Value.ref T !=Value.none)=true from by simp)];refine zQ00 (dD hT dT h3 ?_);rw[if_neg (show¬((Value.none==rawInt L)=true)from by simp[rawInt])];refine zQ00 (wpAny_setField hT dT (Array.getElem?_eq_some_iff.mp h3).1 ?_);have f:∀b,b≠T->(s.heap.update T (Obj.mapFields (·.setIfInBounds 3 Value.none))).get? b=s.heap.get? b:=λb hb=>iW _ _ (Ne.symm hb);have t:∀b o,s.heap.get? b=some o->(∀vs,o.data≠ .fields vs)->b≠T:=λb o hb g q=>by rw[q,hT]at hb;cases hb;exact g u dT
 refine u6 (s:={s with heap:=s.heap.update T (Obj.mapFields (·.setIfInBounds 3 Value.none))}) r (hl.of_keeps λb o hb g=>⟨o,(f b (t b o hb g)).trans hb,rfl⟩) j ⟨oe,vs,a0,(f a (Ne.symm p)).trans he,hc,hd,l,h1,h2⟩ λh' d v w i B k=>h h' d v w ?_ B ⟨λb o e n m=>?_,λb o e n m=>?_⟩
 ·by_cases z:d=T;·rw[z]at i;have :=pk (Obj.mapFields (·.setIfInBounds 3 Value.none)) hT (Obj.isFreed_of_fields (Obj.data_mapFields dT _));rw[i]at this;cases this
  ·rw[<-f d z];exact i
 ·exact k.keep b o ((f b λz=>m (by simp[z])).trans e) n λz=>m (by simp at z;simp[z])
 ·exact k.slot b o ((f b λz=>m (by simp[z])).trans e) n λz=>m (by simp at z;simp[z])
theorem oI{a C T:Addr}{c fl:Value}{Q:Unit->Shared->Prop}(x:Ex s.heap a C (.ref T) c)(y:Tb s.heap T fl)(i:T≠a)(h:∀h',Ex h' a C (.ref T) c->Tb h' T .none->(∀b,b≠T->h'.get? b=s.heap.get? b)->Q () {s with heap:=h'}):wpAny M A (setFlight (.ref a) none) Q E s:=by obtain⟨oe,vs,a0,he,hc,hd,g,h1,h2⟩:=x;obtain⟨j,k,hT,dT,h3⟩:=y;have d:=(Array.getElem?_eq_some_iff.mp h3).1;unfold setFlight;refine zQ00 (dD he hd h1 ?_);rw[if_pos (show(Value.ref T !=Value.none)=true from by simp)];have e:∀b,b≠T->(s.heap.update T (Obj.mapFields (·.setIfInBounds 3 ((none:Option Addr).elim Value.none λf=>rawInt f)))).get? b=s.heap.get? b:=λb hb=>iW _ _ (Ne.symm hb);exact wpAny_setField hT dT d (h _ ⟨oe,vs,a0,(e a (Ne.symm i)).trans he,hc,hd,g,h1,h2⟩ ⟨_,_,pk _ hT (Obj.isFreed_of_fields (Obj.data_mapFields dT _)),Obj.data_mapFields dT _,by simp[d]⟩ e)
theorem Bn{base:Heap}{env:Env}{outer:List Env}{L a C:Addr}{c:Value}{Q:Unit->Shared->Prop}(l:A.frames=some (env::outer))(hl:s.heap.FunFrames base (env::outer))(k:env.frame=some L)(x:Ex s.heap a C .none c)(h:∀h' d,Ex h' a C (.ref d) c->Tb h' d .none->s.heap.get? d=none->d≠a->LD (kJ (env::outer)) [a] s.heap h'->Q () {s with heap:=h'}):wpAny M A (leaving env (.ref a)) Q E s:=by unfold leaving;refine zQ00 (Dr l hl k x λh1 T1 p t f g j=>oI (s:={s with heap:=h1}) p t g λh2 r u i=>h h2 T1 r u f g ?_);refine⟨λb o e n m=>(i b λz=>by rw[z,f]at e;cases e).trans (j.keep b o e n m),λb o e n m=>?_⟩;obtain⟨sl,q⟩:=j.slot b o e n m;exact⟨sl,(i b λz=>by rw[z,f]at e;cases e).trans q⟩
theorem Dq{base:Heap}{env:Env}{outer:List Env}{L a C T:Addr}{c:Value}{Q:Unit->Shared->Prop}(p:A.frames=some (env::outer))(hl:s.heap.FunFrames base (env::outer))(l:env.frame=some L)(x:Ex s.heap a C (.ref T) c)(y:Tb s.heap T .none)(k:T≠a)(h:∀h' d,Ex h' a C (.ref d) c->Tb h' d .none->s.heap.get? d=none->d≠a->LD (kJ (env::outer)) [a,T] s.heap h'->Q () {s with heap:=h'}):wpAny M A (leaving env (.ref a)) Q E s:=by unfold leaving;refine zQ00 (HH p hl l x y k λh1 T1 r u f g j=>oI (s:={s with heap:=h1}) r u g λh2 t v i=>h h2 T1 t v f g ?_);refine⟨λb o e n m=>(i b λz=>by rw[z,f]at e;cases e).trans (j.keep b o e n m),λb o e n m=>?_⟩;obtain⟨sl,q⟩:=j.slot b o e n m;exact⟨sl,(i b λz=>by rw[z,f]at e;cases e).trans q⟩
end
theorem DQ{P:Program}{w:World}{H:Hp}{h:Heap}{a:Addr}{o:HO}(x:bV P w H h a o):∃u,h.get? a=some u:=by
 cases o with
  |lst xs=>obtain⟨_,_,_,_,e⟩:=x;exact⟨_,e⟩
  |tup xs=>obtain⟨_,_,_,o,e,_⟩:=x;exact⟨_,e⟩
  |dK kvs=>obtain⟨_,_,_,_,o,_,_,e,_⟩:=x;exact⟨_,e⟩
  |dT kvs=>obtain⟨_,_,_,_,o,_,_,e,_⟩:=x;exact⟨_,e⟩
  |set S n=>obtain⟨o,_,_,_,e,_⟩:=x;exact⟨_,e⟩
  |ins C dx fs=>obtain⟨_,_,_,e,_⟩:=x;exact⟨_,e⟩
  |own y=>exact x
  |xd fs=>obtain⟨_,⟨_,_,_,e,_⟩,_⟩:=x;exact⟨_,e⟩
  |ZE lo hi=>obtain⟨_,_,_,e⟩:=x;exact⟨_,e⟩
  |DM ob u=>obtain⟨e,_⟩:=x;exact⟨_,e⟩
  |HK ps=>cases ps with|tab q ln cl=>rcases x with e|⟨c,e,_⟩<;>exact⟨_,e⟩|code q=>obtain⟨c,o,vs,t,b,d,_⟩:=x;cases b;exact⟨_,d⟩
  |met f y=>exact⟨_,show h.get? a=some _ from x⟩
  |ext φ=>obtain⟨_,e,_⟩:=x;exact e
theorem rB{P:Program}{w:World}{H:Hp}{h:Heap}{a:Addr}(x:iZ P w H h)(e:h.get? a=none):H a=none:=by cases q:H a with|none=>rfl|some o=>obtain⟨u,z⟩:=DQ (x a o q);rw[e]at z;cases z
theorem LD.any{fs xs:List Addr}{h h':Heap}(p:LD fs xs h h'){b:Addr}{o:Obj}(e:h.get? b=some o)(m:b∉xs):∃sl,h'.get? b=some {o with slots:=sl}:=by
 by_cases hb:b∈fs;·exact p.slot b o e hb m
 ·exact⟨o.slots,p.keep b o e hb m⟩
theorem L1{P:Program}{w:World}{H:Hp}{h h':Heap}{fs xs:List Addr}(x:iZ P w H h)(p:LD fs xs h h')(c:∀b∈fs,H b=none)(nx:∀b∈xs,H b=none):iZ P w H h':=λa o e=>by
 have st:∀b u,H b≠none->h.get? b=some u->h'.get? b=some u:=λb u n q=>p.keep b u q (λz=>n (c b z)) λz=>n (nx b z);refine(x a o e).wt (λb u hb q=>st b u ?_ q) (λ_ q=>q) λ_ _ q=>q;rcases hb with z|z;·rw[z,e];simp
 ·rw[z];simp
structure RZ(X:Cx)(pins:List (Addr×Obj))(H:Hp)(b:Addr):Prop where
 un:H b=none
 new:X.bQ.heap.get? b=none
 loc:b≠X.env.locals
 cel:∀x c,X.env.cells.lookup x=some c->c≠b
 pin:∀p∈X.pn++pins,p.1≠b
section
variable{X:Cx}{pins:List (Addr×Obj)}{σ:L2.St}{H H':Hp}{s s':Shared}{h':Heap}{a:Addr}
theorem qx(I:Inv X pins σ H s)(e:s.heap.get? a=none)(d:a∉X.ex)(hn:H' a=none):RZ X pins H' a:=by
 refine⟨hn,?_,λz=>?_,λx c q z=>?_,λp b z=>?_⟩;·cases q:X.bQ.heap.get? a with|none=>rfl|some o=>obtain⟨o',z⟩:=I.base.there a o q d;rw[e]at z;cases z
 ·obtain⟨m,⟨o,_,_,ho,_⟩,_⟩:=I.loc;rw[<-z,e]at ho;cases ho
 ·obtain⟨v,o,ho,_⟩:=I.cell x c q;rw[z,e]at ho;cases ho
 ·have :=(I.pin p b).1;rw[z,e]at this;cases this
theorem Inv.stp{ch:List Addr}(I:Inv X pins σ H s)(p:LD (kJ X.stack) ch s.heap h')(hc:∀b∈ch,RZ X pins H b):Inv X pins σ H {s with heap:=h'}:=by
 have j:∀b o,X.bQ.heap.get? b=some o->b∉ch:=λb o e z=>by rw[(hc b z).new]at e;cases e
 have A:∀b o,X.bQ.heap.get? b=some o->b∉X.fs->b∉kJ X.stack:=λb o e hb z=>by
  rcases List.mem_cons.mp (I.jq b z)with q|q;·have :=zQ09 e;rw[q]at this;exact absurd this (Nat.not_lt.mpr I.ok.above)
  ·exact hb q
 have cellK:∀x c,X.env.cells.lookup x=some c->∀v,s.heap.IsCell c v->h'.IsCell c v:=λx c e v⟨o,ho,hd⟩=>by obtain⟨sl,q⟩:=p.any ho λz=>(hc c z).cel x c e rfl;exact⟨_,q,hd⟩
 refine⟨I.ok,I.os,I.bare,⟨λb o e n hb f=>?_,λb o e n hb f=>?_,λb o e n f=>I.base.free b o e n f,λb o e f=>?_,I.base.ue,I.base.rG,I.base.ur⟩,?_,λx c e=>?_,I.free,I.g9,λq hq=>?_,L1 I.bT p I.zW λb hb=>(hc b hb).un,I.len⟩;·exact p.keep b o (I.base.keep b o e n hb f) (A b o e hb) (j b o e)
 ·obtain⟨sl,g⟩:=I.base.slot b o e n hb f;obtain⟨B,h⟩:=p.any g (j b o e);exact⟨B,h⟩
 ·obtain⟨o',g⟩:=I.base.there b o e f;obtain⟨sl,h⟩:=p.any g (j b o e);exact⟨_,h⟩
 ·obtain⟨m,⟨o,es,ep,ho,r⟩,hl⟩:=I.loc;obtain⟨sl,y⟩:=p.any ho λz=>(hc _ z).loc rfl;refine⟨m,⟨_,es,ep,y,r⟩,λi x v g h w=>?_⟩;obtain⟨u,r,l⟩:=hl i x v g h w;refine⟨u,r,?_⟩;rcases l with l|⟨k,c,e,z⟩;·exact .inl l
  ·exact .inr ⟨k,c,e,cellK x c e _ z⟩
 ·obtain⟨v,z⟩:=I.cell x c e;exact⟨v,cellK x c e v z⟩
 ·obtain⟨e,n,ne,t,d⟩:=I.pin q hq;exact⟨p.keep q.1 q.2 e (λz=>(List.mem_cons.mp (I.jq q.1 z)).elim ne t) λz=>(hc q.1 z).pin q hq rfl,n,ne,t,d⟩
end
structure YK(X:Cx)(pins:List (Addr×Obj))(H:Hp)(s:Shared)(a C T:Addr)(c fl:Value):Prop where
 ex:Ex s.heap a C (.ref T) c
 tb:Tb s.heap T fl
 ne:T≠a
 fa:RZ X pins H a
 fT:RZ X pins H T
noncomputable def gO(P:Program)(w:World):qm:=λhh outer H s E e s'=>∃(a C T:Addr)(c:Value)(H':Hp),e= .ref a/\s'.os=s.os/\AllBare s'.gens/\Un (kJ outer) [] H H' s.heap s'.heap/\iZ P w H' s'.heap/\Ex s'.heap a C (.ref T) c/\(hh=none->c= .none)/\Tb s'.heap T .none/\T≠a/\H' a=none/\H' T=none/\s.heap.get? a=none/\s.heap.get? T=none/\E (.ref C) none H'
section
variable{X:Cx}{pins:List (Addr×Obj)}{σ:L2.St}{H:Hp}{s s':Shared}{E:XK}{e:Value}{hh:Option Value}
theorem Q_(I:Inv X pins σ H s)(d:X.ex=[])(h:gO X.prog X.w hh X.stack H s E e s'):∃a C T c H',e= .ref a/\Inv X pins σ H' s'/\YK X pins H' s' a C T c .none/\(hh=none->c= .none)/\E (.ref C) none H':=by obtain⟨a,C,T,c,H',rfl,os,bare,un,bT,ex,hc,tb,ne,g,f,fa,fT,q⟩:=h;refine⟨a,C,T,c,H',rfl,I.KG os un bT bare (λb z=>absurd z (by simp)),⟨ex,tb,ne,qx I fa (by rw[d];simp) g,qx I fT (by rw[d];simp) f⟩,hc,q⟩
end
section
variable{P:Program}{w:World}{K:PySem.W.Frag}{mg:Str->Option Value}{base:Heap}{N:List Str}{qual:Str}{sc:Scope}{f:Addr}{cd:Value}{A:Around}{outer:List Env}{bQ:Shared}{H₀:Hp}{E:XK}
theorem J6{σ:L2.St}{H:Hp}{s:Shared}{pins:List (Addr×Obj)}{a C T:Addr}{c:Value}{h':Heap}{ch:List Addr}(I:Inv (dX (gO P w) P w K mg base N qual sc f cd A outer bQ H₀ E) pins σ H s)(p:LD (kJ (dX (gO P w) P w K mg base N qual sc f cd A outer bQ H₀ E).stack) ch s.heap h')(e:∀b∈ch,RZ (dX (gO P w) P w K mg base N qual sc f cd A outer bQ H₀ E) pins H b)(fa:RZ (dX (gO P w) P w K mg base N qual sc f cd A outer bQ H₀ E) pins H a)(ex:Ex h' a C (.ref T) c)(tb:Tb h' T .none)(d:s.heap.get? T=none)(ne:T≠a)(hc:A.handled=none->c= .none)(q:E (.ref C) none H):gO P w A.handled outer H₀ bQ E (.ref a) {s with heap:=h'}:=by have J:=Inv.stp I p e;exact⟨a,C,T,c,H,rfl,J.os,J.bare,J.base,J.bT,ex,hc,tb,ne,fa.un,rB I.bT d,fa.new,(qx (H':=H) I d (by show T∉[];simp) (rB I.bT d)).new,q⟩
theorem Su{σ:L2.St}{H:Hp}{s:Shared}{pins:List (Addr×Obj)}{a C T:Addr}{c:Value}(I:Inv (dX (gO P w) P w K mg base N qual sc f cd A outer bQ H₀ E) pins σ H s)(F:YK (dX (gO P w) P w K mg base N qual sc f cd A outer bQ H₀ E) pins H s a C T c .none)(hc:A.handled=none->c= .none)(q:E (.ref C) none H):(dX (gO P w) P w K mg base N qual sc f cd A outer bQ H₀ E).xe (.ref a) s:=by
 refine Dq I.ok.frames I.stack rfl F.ex F.tb F.ne λh' i d e g h p=>?_;exact J6 (ch:=[a,T]) I p (λb hb=>by
  rcases List.mem_cons.mp hb with z|z;·rw[z];exact F.fa
  ·rw[List.mem_singleton.mp z];exact F.fT) F.fa d e g h hc q
theorem e_{N:List Str}:Passes (gO P w) (dX (gO P w) P w K mg base N qual sc f cd A outer bQ H₀ E) E:=λpins σ H s e s' I h=>by obtain⟨a,C,T,c,H',rfl,J,F,hc,q⟩:=Q_ I rfl h;exact Su J F hc q
theorem eP{σ:L2.St}{H:Hp}{s:Shared}{pins:List (Addr×Obj)}{a C:Addr}{h':Heap}(I:Inv (dX (gO P w) P w K mg base N qual sc f cd A outer bQ H₀ E) pins σ H s)(m:MadeX s.heap h' a C A.handled)(q:E (.ref C) none H):(dX (gO P w) P w K mg base N qual sc f cd A outer bQ H₀ E).xe (.ref a) {s with heap:=h'}:=by have J:Inv (dX (gO P w) P w K mg base N qual sc f cd A outer bQ H₀ E) pins σ H {s with heap:=h'}:=I.kept (t':=s.toks) m.keeps;obtain⟨oe,vs,t,c,d,e,g,h,i,j,k⟩:=m.there;have fa:RZ (dX (gO P w) P w K mg base N qual sc f cd A outer bQ H₀ E) pins H a:=qx I m.new (by show a∉[];simp) (rB I.bT m.new);refine Bn J.ok.frames J.stack rfl ⟨oe,vs, .ref t,d,e,g,h,i,j⟩ λv u l n o r p=>?_;exact J6 (ch:=[a]) J p (λb hb=>by rw[List.mem_singleton.mp hb];exact fa) fa l n o r k q
theorem N3{N:List Str}:PassesOwn (model P w) (dX (gO P w) P w K mg base N qual sc f cd A outer bQ H₀ E).A (dX (gO P w) P w K mg base N qual sc f cd A outer bQ H₀ E).env (dX (gO P w) P w K mg base N qual sc f cd A outer bQ H₀ E).xe:=PassesOwn.leaving
end
theorem Df.LY{P:Program}{w:World}{K:PySem.W.Frag}{mg:Str->Option Value}{x:Str}{st:Stmt}{N ps:List Str}{k:Nat}{sp:Sp}(D:Df K mg x st ps)(S:aG N ps (ak st))(len:∀vs H Q E,sp vs H Q E->vs.length=ps.length)(a:∀(base:Heap)(f:Addr)(bS:Value)(A:Around)(outer:List Env)(s:Shared)(H:Hp)(vs:List V)(Q:VK)(E:XK),cR k (A.deeper (envOfC x (ak st) s.heap.objs.size f bS))->sp vs H Q E->∃t,kM (dX (gO P w) P w K mg base N x (ak st) f bS A outer s H E) (bG st) t/\t {nx:=λ_ H'=>Q .bA H',rt:=Q} (start N vs) H):bu P w K mg (gO P w) x (k+1) ps sp:=by obtain⟨f,fd,F,m,b⟩:=D;refine⟨f,fd,λbase=>?_,m,F.kp,b⟩;obtain⟨oc,od,kV,doc,pm,an,bS,ct,HI,rfl,e,c⟩:=F.ex;exact J7 e c S len λA outer s H vs Q E hr d=>a base f bS A outer s H vs Q E hr d
section
variable{X:Cx}{pins:List (Addr×Obj)}{σ:L2.St}{H:Hp}{s:Shared}{a:Addr}{oe:Obj}{cm:Bool}
end
noncomputable abbrev TH:=Addr->Addr->TS
def PH(X:Cx)(b:List ExceptHandler)(t:TH):Prop:=∀(pins:List (Addr×Obj))(s:Shared)(σ:L2.St)(H:Hp)(D:Ends)(a C T:Addr)(c:Value),Inv X pins σ H s->YK X pins H s a C T c .none->(X.A.handled=none->c= .none)->t C a D σ H->wpAny (model X.prog X.w) X.A (handleBy (.ref a) X.env b) (SP X pins D) X.xe s
section
variable{X:Cx}{cm:Bool}
noncomputable def D1(i:Nat)(D:Ends):Ends:={nx:=λσ H=>D.nx (σ.set i none) H,rt:=D.rt,bk:=λσ H=>D.bk (σ.set i none) H,ct:=λσ H=>D.ct (σ.set i none) H}
end
noncomputable abbrev TB:=Ends->(Addr->L2.St->Hp->Prop)->L2.St->Hp->Prop
def BX(X:Cx)(pins:List (Addr×Obj))(G:Addr->L2.St->Hp->Prop)(e:Value)(s':Shared):Prop:=∃(a C T:Addr)(c:Value)(b:L2.St)(H':Hp),e= .ref a/\Inv X pins b H' s'/\YK X pins H' s' a C T c .none/\(X.A.handled=none->c= .none)/\G C b H'
def PB(X:Cx)(body:List Stmt)(t:TB):Prop:=∀(pins:List (Addr×Obj))(s:Shared)(σ:L2.St)(H:Hp)(D:Ends)(G:Addr->L2.St->Hp->Prop),Inv X pins σ H s->t D G σ H->wpAny (model X.prog X.w) X.A (execs body X.env) (SP X pins D) (BX X pins G) s
structure abh(K:PySem.W.Frag)(C:Addr):Prop where
 ga:PySem.W.findIn K (.ref C) "__getattribute__"=some (some (.builtin "BaseException.__getattribute__"))
 cl:PySem.W.findIn K (.ref C) "__class__"=some (some (.builtin "object.__class__"))
 gt:PySem.W.findIn K (.ref C) "__getattr__"=some none
 ob:PySem.W.mroIn K C (.type "object")=some true
 be:PySem.W.mroIn K C (.type "BaseException")=some true
 is:(PySem.W.clsIn K C).isSome=true
section
variable{prog:Program}{w:World}{A:Around}{E:Value->Shared->Prop}{h:Heap}{g:Array GenState}{d:Drawn}{t:Nat}{os:OsState}{a C:Addr}{o:Obj}{K:PySem.W.Frag}
end
section
variable{X:Cx}{pins:List (Addr×Obj)}{σ:L2.St}{H:Hp}{s:Shared}{a:Addr}{D:List (Str×V)}{k:Str}{tk:Tok}{A:Around}{E:Value->Shared->Prop}
theorem HW{Q:Value->Shared->Prop}(T:ic X.K a D)(I:Inv X pins σ H s)(h:∀b,RelV ((KTD.datumAt k D).getD .bA) b->Q b {s with toks:=s.toks+1}):wpAny (model X.prog X.w) A (call (.builtin "dict.get") [.ref a, .str k tk]) Q E s:=by
 have ty:=T.typeIs I;refine gP PySem.F.slot_dict_get ty PySem.F.entry_dict_get ?_ (PySem.F.args_dict_get_2 _ _);show wpAny (model X.prog X.w) _ (dictGet a (.str k tk)>>=_) _ _ s;refine zQ00 (qK T I (λv u e r=>?_) λhn=>?_);·have h:=h u (by rw[e];exact r);exact zQ02 ⟨u,rfl,h⟩
 ·have h:=h .none (by rw[hn];exact rfl);refine zQ00 ?_;unfold Builtin.Dict.missed;rw[T.sys];simp only[Bool.false_eq_true,if_false];exact zQ02 (zQ02 ⟨_,rfl,h⟩)
end
noncomputable def RQ(K:PySem.W.Frag)(d ty:TE):TE:=λσ H Q=>d σ H λx b=>∃a D,x= .ref a/\ic K a D/\ty σ b λy c=>∃k,y= .str k/\Q ((KTD.datumAt k D).getD .bA) c
theorem Ju{X:Cx}{o e:Expr}{apos dA:Pos}{f ty:TE}(ho:PE X o f)(he:PE X e ty)(m:M1 X o "get" apos e dA):PE X (.Call (.Attribute o "get" apos) [e] [] dA) (RQ X.K f ty):=by
 intro pins s σ H Q I h;refine wpAny_Call_method m.base m.LL m.line PySem.F.plainAttrs_dict PySem.F.slot_dict_get PySem.F.type_dict_get (bE (ho pins s σ H _ I h) λu s1 v=>?_);obtain⟨x,g,c,l,a,D,ex,T,q1⟩:=v;subst ex;obtain rfl:u=Value.ref a:=l;have p:=T.typeIs c;refine⟨p,λb q=>?_,?_⟩;·cases q;obtain⟨o,_,_,e,x,_⟩:=T.ex;exact⟨o,c.jl a o e,x.2.1⟩
 rw[m.trees];refine Calls.callWith_builtin rfl (Calls.evalArgs_plain (Calls.spliced_cons (bE (he pins s1 σ g _ c q1) λw s2⟨y,i,d,n,k,j,q2⟩=>Calls.spliced_nil ?_)));subst j;obtain⟨t,rfl⟩:=n;exact HW T d λz r=>⟨_,i,d.tok _,r,q2⟩
theorem sD{P:Program}{w:World}{X:Cx}:Passes (gO P w) X E0:=λ_ _ _ _ _ _ _ h=>by obtain⟨a,C,T,c,H',_,_,_,_,_,_,_,_,_,_,_,_,_,q⟩:=h;exact q.elim
structure abn(a e it:Addr)(i:Nat)(h:Heap):Prop where
 e:∃old,IsEnum h e it i old
 it:h.IsListIter it a i
theorem iF{CX:qm}{P:Program}{w:World}{K:PySem.W.Frag}{mg:Str->Option Value}{base:Heap}{N:List Str}{qual:Str}{scope:Scope}{f:Addr}{cd:Value}{A:Around}{outer:List Env}{s:Shared}{H:Hp}{E:XK}:(dX CX P w K mg base N qual scope f cd A outer s H E).JT.K=K:=rfl
end L3
end
section
namespace L3
open PySem L2
theorem vX{a b:TS}{D:Ends}{σ:L2.St}{H:Hp}(h:let c:Ends:=D;let d:TS:=b;aL a d c σ H):(aL a (b)) D σ H:=h
theorem CK{a b c:TS}{D:Ends}{σ:L2.St}{H:Hp}(h:let d:Ends:=D;let f:TS:=c;let e:TS:=aL b f;aL a e d σ H):(aL a (aL b (c))) D σ H:=h
theorem pq{a b c t4:TS}{D:Ends}{σ:L2.St}{H:Hp}(h:let d:Ends:=D;let g:TS:=t4;let f:TS:=aL c g;let e:TS:=aL b f;aL a e d σ H):(aL a (aL b (aL c (t4)))) D σ H:=h
theorem aac{a b c t4 d:TS}{D:Ends}{σ:L2.St}{H:Hp}(h:let e:Ends:=D;let j:TS:=d;let i:TS:=aL t4 j;let g:TS:=aL c i;let f:TS:=aL b g;aL a f e σ H):(aL a (aL b (aL c (aL t4 (d))))) D σ H:=h
theorem Vn{a b c t4 d e:TS}{D:Ends}{σ:L2.St}{H:Hp}(h:let f:Ends:=D;let l:TS:=e;let k:TS:=aL d l;let j:TS:=aL t4 k;let i:TS:=aL c j;let g:TS:=aL b i;aL a g f σ H):(aL a (aL b (aL c (aL t4 (aL d (e)))))) D σ H:=h
theorem aa4{a b c t4 d e f:TS}{D:Ends}{σ:L2.St}{H:Hp}(h:let g:Ends:=D;let n:TS:=f;let m:TS:=aL e n;let l:TS:=aL d m;let k:TS:=aL t4 l;let j:TS:=aL c k;let i:TS:=aL b j;aL a i g σ H):(aL a (aL b (aL c (aL t4 (aL d (aL e (f))))))) D σ H:=h
theorem Z_{a b c t4 d e f g i:TS}{D:Ends}{σ:L2.St}{H:Hp}(h:let j:Ends:=D;let r:TS:=i;let q:TS:=aL g r;let p:TS:=aL f q;let o:TS:=aL e p;let n:TS:=aL d o;let m:TS:=aL t4 n;let l:TS:=aL c m;let k:TS:=aL b l;aL a k j σ H):(aL a (aL b (aL c (aL t4 (aL d (aL e (aL f (aL g (i))))))))) D σ H:=h
theorem Yw{a d e t4 f g i j k b c:TS}{D:Ends}{σ:L2.St}{H:Hp}(h:let l:Ends:=D;let n:TS:=c;let m:TS:=aL b n;let v:TS:=aL k m;let u:TS:=aL j v;let t:TS:=aL i u;let s:TS:=aL g t;let r:TS:=aL f s;let q:TS:=aL t4 r;let p:TS:=aL e q;let o:TS:=aL d p;aL a o l σ H):(aL a (aL d (aL e (aL t4 (aL f (aL g (aL i (aL j (aL k (aL b (c))))))))))) D σ H:=h
theorem Wv{a f g t4 i j k l m b c d e:TS}{D:Ends}{σ:L2.St}{H:Hp}(h:let n:Ends:=D;let r:TS:=e;let q:TS:=aL d r;let p:TS:=aL c q;let o:TS:=aL b p;let z:TS:=aL m o;let y:TS:=aL l z;let x:TS:=aL k y;let w:TS:=aL j x;let v:TS:=aL i w;let u:TS:=aL t4 v;let t:TS:=aL g u;let s:TS:=aL f t;aL a s n σ H):(aL a (aL f (aL g (aL t4 (aL i (aL j (aL k (aL l (aL m (aL b (aL c (aL d (e))))))))))))) D σ H:=h
end L3
end
section
namespace KM
end KM
end
section
namespace L3
open PySem L2
theorem by0{P:List Value->Prop}(h:P []):∀us:List Value,us.length=0->P us:=λus e=>by rw[List.length_eq_zero_iff.mp e];exact h
theorem WX{P:List Value->Prop}{n:Nat}(h:∀a us,us.length=n->P (a::us)):∀us:List Value,us.length=n+1->P us|[],e=>nomatch e|a::us,e=>h a us (Nat.succ.inj e)
theorem ie{P:List Value->Prop}(h:∀a,P [a]):∀us:List Value,us.length=1->P us:=WX λa=>by0 (h a)
theorem GY{P:List Value->Prop}(h:∀a b,P [a,b]):∀us:List Value,us.length=2->P us:=WX λa=>ie (h a)
theorem OY{P:List Value->Prop}(h:∀a b c,P [a,b,c]):∀us:List Value,us.length=3->P us:=WX λa=>GY (h a)
theorem by4{P:List Value->Prop}(h:∀a b c d,P [a,b,c,d]):∀us:List Value,us.length=4->P us:=WX λa=>OY (h a)
theorem by5{P:List Value->Prop}(h:∀a b c d e,P [a,b,c,d,e]):∀us:List Value,us.length=5->P us:=WX λa=>by4 (h a)
def cx(K:PySem.W.Frag)(x:Str)(st:Stmt):Prop:=∃(f:Addr)(od an:Option Addr)(sl:Array (Option Value))(oc kV dc pm cd ct:Value),PySem.W.nsIn K mainGlobals x=some (some (.ref f))/\K.lookup f=some ⟨oc,od, .func (PySem.W.fnOf x x (cQ st) (bG st) (ak st) .none kV dc pm an cd ct),sl⟩/\PySem.W.codeIn K cd x=true/\PySem.W.keepIn K (.ref f)=true
theorem dfi{K:PySem.W.Frag}{x:Str}{st:Stmt}{f:Addr}{od an:Option Addr}{sl:Array (Option Value)}{oc kV dc pm cd ct:Value}(a:PySem.W.nsIn K mainGlobals x=some (some (.ref f)))(l:K.lookup f=some ⟨oc,od, .func (PySem.W.fnOf x x (cQ st) (bG st) (ak st) .none kV dc pm an cd ct),sl⟩)(c:PySem.W.codeIn K cd x=true)(k:PySem.W.keepIn K (.ref f)=true):cx K x st:=⟨f,od,an,sl,oc,kV,dc,pm,cd,ct,a,l,c,k⟩
theorem cx.df{K:PySem.W.Frag}{h:Heap}{mg:Str->Option Value}{x:Str}{st:Stmt}{ps:List Str}(D:cx K x st)(X:K.In h)(G:h.Ns mainGlobals mg)(b:∀(kV doc pm:Value)(an:Option Addr)(bS ct:Value)(us:List Value),us.length=ps.length->bindArgs (PySem.W.fnOf x x (cQ st) (bG st) (ak st) .none kV doc pm an bS ct) ⟨us,[]⟩=pure (ps.zip us)):Df K mg x st ps:=by obtain⟨f,od,an,sl,oc,kV,dc,pm,cd,ct,a,l,c,k⟩:=D;exact⟨f,_,fD l c k,PySem.W.mg_of X G a,(fD l c k).binds b⟩
end L3
end
theorem L2.cR.m{j k:Nat}{A:PySem.Around}(r:L2.cR k A)(h:j<=k:=by first|decide|lia):L2.cR j A:=r.mono h
section
namespace K57
open PySem L2 L3 KM
abbrev P6:List Str:=["_law_script","_law_state","_law_want","_law_deep_here","_law_over"]
noncomputable def top(i:Nat):Stmt:=PySem.Challenge.pw_keeper_k57_whole_read_of_shown.main.body.getD i (.Pass ⟨0,0,0,0⟩)
noncomputable abbrev g7:Stmt:=top 15
noncomputable abbrev g_:Stmt:=top 16
noncomputable abbrev jF:Stmt:=top 17
noncomputable abbrev f_:Stmt:=top 18
noncomputable abbrev eC:Stmt:=top 19
noncomputable abbrev cq:Stmt:=top 20
noncomputable abbrev jO:Stmt:=top 21
noncomputable abbrev c6:Stmt:=top 23
noncomputable abbrev jE:Stmt:=top 24
noncomputable abbrev fV:Stmt:=top 26
noncomputable abbrev fJ:Stmt:=top 27
noncomputable abbrev fF:Stmt:=top 28
noncomputable abbrev eQ:Stmt:=top 29
noncomputable abbrev h_:Stmt:=top 30
noncomputable abbrev qA:Stmt:=top 31
noncomputable abbrev gb:Stmt:=top 33
noncomputable abbrev jJ:Stmt:=top 38
noncomputable abbrev eU:Stmt:=top 39
noncomputable abbrev fi:Stmt:=top 40
noncomputable abbrev iL:Stmt:=top 41
noncomputable abbrev jM:Stmt:=top 42
noncomputable abbrev fG:Stmt:=top 43
noncomputable abbrev gL:Stmt:=top 44
noncomputable abbrev gB:Stmt:=top 45
noncomputable abbrev dF:Stmt:=top 47
noncomputable abbrev gN:Stmt:=top 48
noncomputable abbrev iH:Stmt:=top 49
noncomputable abbrev gy:Stmt:=top 50
noncomputable abbrev ft:Stmt:=top 51
noncomputable abbrev cW:Stmt:=top 52
noncomputable abbrev eZ:Stmt:=top 53
noncomputable abbrev gj:Stmt:=top 54
noncomputable abbrev iQ:Stmt:=top 55
noncomputable abbrev ip:Stmt:=top 56
noncomputable abbrev gf:Stmt:=top 57
noncomputable abbrev cy:Stmt:=top 58
noncomputable abbrev FW:Stmt:=top 59
noncomputable abbrev cz:Stmt:=inClass (top 37) 0
noncomputable abbrev bh:Stmt:=inClass (top 37) 1
noncomputable abbrev bH:Stmt:=inClass (top 37) 2
noncomputable abbrev cA:Stmt:=inClass (top 37) 3
noncomputable abbrev bP:Stmt:=inClass (top 37) 4
structure Aq where
 none_:Unit:=()
 iz:Addr
 jc:Addr
 de:Addr
 gJ:Addr
 iD:Addr
 bc:Addr
 Form:Addr
structure Mg(mg:Str->Option Value)(t:Aq):Prop where
 Pp:mg "all"=none
 BI:mg "int"=none
 dr:mg "isinstance"=none
 cH:mg "len"=none
 CU:mg "list"=none
 FU:mg "max"=none
 Of:mg "min"=none
 fO:mg "range"=none
 CO:mg "reversed"=none
 WU:mg "set"=none
 JX:mg "sorted"=none
 KY:mg "str"=none
 iB:mg "tuple"=none
 Ov:mg "zip"=none
 g_MOST_KNOTS:∃tk,mg "MOST_KNOTS"=some (.int 600 tk)
 g_MOST_DEEP:∃tk,mg "MOST_DEEP"=some (.int 40 tk)
 g_MOST_VARIABLE:∃tk,mg "MOST_VARIABLE"=some (.int 99 tk)
 g_MOST_LETTERS:∃tk,mg "MOST_LETTERS"=some (.int 12 tk)
 g_LETTERS:∃tk,mg "LETTERS"=some (.str "abcdefghijklmnopqrstuvwxyz" tk)
 g_KIND_WORDS:mg "KIND_WORDS"=some (.ref t.iz)
 g_KIDS_DUE:mg "KIDS_DUE"=some (.ref t.jc)
 g_BINDER_OVER:mg "BINDER_OVER"=some (.ref t.de)
 g_FIGURES:∃tk,mg "FIGURES"=some (.str "0123456789" tk)
 g_MOST_FIGURE:∃tk,mg "MOST_FIGURE"=some (.int 39 tk)
 g_Great:mg "Great"=some (.ref t.gJ)
 g_NoVariable:mg "NoVariable"=some (.ref t.iD)
 g_NoText:mg "NoText"=some (.ref t.bc)
 g_Form:mg "Form"=some (.ref t.Form)
seal L2.PE L2.PS L2.kM L2.PT L2.PW L2.PA L2.PG L2.BA L2.PI L2.PC L2.PO L2.G0 L2.PK L3.Bc
variable{P:Program}{w:World}{K:PySem.W.Frag}{mg:Str->Option Value}{base:Heap}{f:Addr}{fd:FuncData}
noncomputable def cL(ns:List Int)(k:Nat):Int:=(ns[k]?).getD 0
def qS(K:PySem.W.Frag):Sp:=λvs H Q _=>∃(a:Addr)(ns:List Int)(k:Nat),vs=[.ref a, .int k]/\aZ K H a (ns.map V.int)/\Q (.int (cL ns k)) H
theorem QK:aG ["_law_script","_law_k"] ["_law_script","_law_k"] (ak dF):=⟨rfl,rfl,rfl,by decide+kernel,rfl,by decide+kernel,by decide+kernel⟩
theorem Mn(F:Nj K "_law_cell_at" "_law_cell_at" dF f fd)(g:mg "len"=none):pB P w K mg base bx 1 f fd ["_law_script","_law_k"] (qS K):=by
 refine F.ok QK (λvs H Q E h=>?_) (λbS A outer s H vs Q E hr h=>?_);·obtain⟨a,ns,k,rfl,_⟩:=h;rfl
 obtain⟨a,ns,k,rfl,hS,q⟩:=h;refine⟨_,ag (aT (aw BJ (pv 1) (aJ aM rfl g PySem.boot_len (aa (pv 0) af)) (az _)) (ai (aA (aX bJ (pv 0) (pv 1) (λ_ _=>rfl)))) aC) (ai (aA aj)),?_⟩;refine⟨_,rfl,_,rfl,a,_,rfl, .inl hS,_,_,rfl,rfl,_,rfl,?_⟩;have hl:(ns.map V.int).length=ns.length:=bD _;refine bL (λc=>?_) (λc=>?_)
 ·have d:(k:Int)<(((ns.map V.int).length:Nat):Int):=of_decide_eq_true c;have b:k<ns.length:=by rw[hl]at d;omega
  have e:cL ns k=ns[k]:=by unfold cL;simp[b]
  rw[e]at q;exact⟨_,rfl,_,rfl,a,_,_,_,rfl,rfl,hS,aR (by rw[gs,zQ03 b]<;>rfl),q⟩
 ·have d:¬(k:Int)<(((ns.map V.int).length:Nat):Int):=of_decide_eq_false (Bool.eq_false_iff.mpr c);have b:ns.length<=k:=by rw[hl]at d;omega
  have e:cL ns k=0:=by unfold cL;rw[List.getElem?_eq_none b];rfl
  rw[e]at q;exact q
variable{P:Program}{w:World}{K:PySem.W.Frag}{mg:Str->Option Value}{base:Heap}{f:Addr}{fd:FuncData}
noncomputable def Wh:List (Key×V):=[(.inr "nat", .str ""),(.inr "none", .str ""),(.inr "zero", .str ""),(.inr "all", .str "kk"),(.inr "some", .str "kk"),(.inr "same", .str "ktt"),(.inr "fun", .str "kt"),(.inr "app", .str "tt")]
noncomputable def Vd:List (Key×V):=[(.inr "next", .str "t"),(.inr "rec", .str "kttt"),(.inr "like", .str "kt"),(.inr "carry", .str "ktt"),(.inr "never", .str "kt"),(.inr "pair", .str "ktt"),(.inr "first", .str "t")]
noncomputable def W_:List (Key×V):=[(.inr "second", .str "t"),(.inr "var", .str "n"),(.inr "name", .str "w")]
noncomputable def cO(x:Str):V:=match fC Wh (Sum.inr x:Key)with|some v=>v|none=>match fC Vd (Sum.inr x:Key)with|some v=>v|none=>(fC W_ (Sum.inr x:Key)).getD .bA
noncomputable def dE(w:Str):Bool:=O7 (.str w) [.str "nat", .str "none", .str "all", .str "some", .str "same"]
noncomputable def gW:D->Bool| .int i=>decide (0<=i)&&decide (i<=99)|_=>false
mutual noncomputable def dC(nm:D->Bool)(k:Bool):D->Bool
 | .tup (.str w::ps)=>match cO w with| .str s=>(dE w==k)&&mV nm s.cps.toList ps|_=>false
 |_=>false noncomputable def mV(nm:D->Bool):List Nat->List D->Bool|[],[]=>true|c::cs,p::ps=>(if c=107 then dC nm true p else if c=116 then dC nm false p else if c=110 then gW p else nm p)&&mV nm cs ps|_,_=>false end
noncomputable def iX(nm:D->Bool)(c:Nat)(p:D):Bool:=if c=107 then dC nm true p else if c=116 then dC nm false p else if c=110 then gW p else nm p
theorem bM(nm:D->Bool)(c:Nat)(cs:List Nat)(p:D)(ps:List D):mV nm (c::cs) (p::ps)=(iX nm c p&&mV nm cs ps):=by rw[mV];rfl
theorem iN{nm:D->Bool}{k:Bool}{w s:Str}{ps:List D}(h1:cO w= .str s)(h2:dE w=k)(h3:mV nm s.cps.toList ps=true):dC nm k (.tup (.str w::ps))=true:=by rw[dC,h1];simp[h2,h3]
theorem eJ:cO "var"= .str "n":=by decide+kernel
theorem ku:cO "name"= .str "w":=by decide+kernel
theorem vh:(Str.ofString "n").cps.toList=[110]:=by decide+kernel
theorem PY:(Str.ofString "w").cps.toList=[119]:=by decide+kernel
variable{P:Program}{w:World}{K:PySem.W.Frag}{mg:Str->Option Value}{base:Heap}{f fN fM fS:Addr}{fd fdN fdM fdS:FuncData}
noncomputable def w0(k:Bool):Str:=if k then"nat"else"var"
variable{t:Aq}
end K57
end
section
namespace L3
open PySem PySem.Spec PyProof.Rows L2 KM
theorem IE{prog:Program}{w:World}{A:Around}{E:Value->Shared->Prop}{s:Shared}{t b:Addr}{ws:List Value}{Q:Value->Shared->Prop}(ht:IsTup s.heap t (([]:List Value)).toArray)(hb:IsTup s.heap b ws.toArray)(h1:Q (.ref b) s):wpAny (model prog w) A (binaryOp .Add (.ref t) (.ref b)) Q E s:=by obtain⟨⟨cls,dd,data,sl⟩,ho,hc,n,hd⟩:=id ht;obtain⟨⟨h,e,data2,g⟩,d,a,f,c⟩:=id hb;simp only at hc hd a c;subst hc hd a c;exact concat_meets ⟨_,ho,rfl⟩ ⟨_,d,rfl⟩ noFill_tuple_add seq_tuple_add PySem.F.slot_tuple_add PySem.F.entry_tuple_add (PySem.F.args_tuple_add_2 _ _) (tuple_addW0 t b _ ws.toArray n f dd e sl g (by simp)) ⟨ho,d,h1⟩
noncomputable def Ww(K:PySem.W.Frag):R2:=λx y H Q=>∃a b xs ys,x= .ref a/\y= .ref b/\cu K H a xs/\cu K H b ys/\xs.length+ys.length<=sizeLine/\(xs=[]->Q (.ref b) H)/\(xs≠[]->ys=[]->Q (.ref a) H)/\(xs≠[]->ys≠[]->∀p,H p=none->Q (.ref p) (upd H p (.tup (xs++ys))))
theorem Nh{X:Cx}:jH X (binaryOp .Add) (Ww X.K):=by
 intro pins s σ H x y v u Q I d f h;obtain⟨a,b,xs,ys,rfl,rfl,ha,hb,g,k,q1,q2⟩:=h;by_cases c:xs=[];·cases d;cases f;subst c;obtain⟨its,l,i,_⟩:=I.tuple ha;obtain⟨m,n,j,_⟩:=I.tuple hb;have e:its=[]:=l.qM.mpr rfl;subst e;exact IE i j ⟨.ref b,H,I,rfl,k rfl⟩
 ·exact LV pins s σ H _ _ v u Q I d f ⟨a,b,xs,ys,rfl,rfl,ha,hb,c,g,q1 c,q2 c⟩
noncomputable def UE:R2:=λx y H Q=>∃a b xs ys,x= .ref a/\y= .ref b/\H a=some (.tup xs)/\H b=some (.tup ys)/\xs.length+ys.length<=sizeLine/\∀p H',aE H H'->H' p=some (.tup (xs++ys))->Q (.ref p) H'
theorem EO{X:Cx}:jH X (binaryOp .Add) UE:=by
 intro pins s σ H x y v u Q I f g h;obtain⟨a,b,xs,ys,rfl,rfl,ha,hb,d,q⟩:=h;refine Nh pins s σ H _ _ v u Q I f g ⟨a,b,xs,ys,rfl,rfl,cu.of ha,cu.of hb,d,λe=>?_,λ_ e=>?_,λ_ _ p c=>q p _ (ao c _) ah⟩;·subst e;exact q b H (aE.refl H) hb
 ·subst e;exact q a H (aE.refl H) (by rw[eF];exact ha)
end L3
end
section
namespace L3
open PySem PySem.Spec PyProof.Rows L2
end L3
end
section
namespace L3
open PySem PySem.Spec PyProof.Rows L2 KM
theorem tD:∀(ns:List Nat)(k:Nat),(ns[k]?).getD 0<=ns.sum|[],_=>by simp|n::ns,0=>by simp|n::ns,k+1=>by have :=tD ns k;simp only[List.getElem?_cons_succ,List.sum_cons];lia
theorem Hl{J:It}{p:Addr}{h:Hp}{g:TG}{w:TE}{b:L2.St}{C:Hp->Prop}(n:Nat)(B:Nat->Int->Prop)(t:h p=none)(hn:n<=sizeLine)(E:∀i a,i<n->aE h a->J.go i a/\∀x d,J.An i a x d->∀(R:V->Hp->Prop),(∀(z:Int)f,aE a f->B i z->R (.int z) f)->g x b d λl o=>w l o R)(hd:∀(ns:List Int)a,aE h a->ns.length=n->(∀(i:Nat)(z:Int),ns[i]?=some z->B i z)->a p=some (.lst (ns.map V.int))->J.stop n a/\C a):∃W:Nat->Nat->List V->Hp->Prop,(∃m,W 0 m [] (upd h p (.lst [])))/\∀i m c a,W i m c a->(J.stop i a/\C a)\/(J.go i a/\∀x d,J.An i a x d->g x b d λl o=>Ir l o λok s=>if ok=true then w l s λv f=>f p=some (.lst c)/\c.length<sizeLine/\∃k,k<m/\W (i+1) k (c++[v]) (upd f p (.lst (c++[v])))else∃k,k<m/\W (i+1) k c s):=by
 refine pV (Q:=λ_ H=>C H) n (λi c a=>∃ns:List Int,c=ns.map V.int/\ns.length=i/\(∀(j:Nat)(z:Int),ns[j]?=some z->B j z)/\a p=some (.lst c)/\aE h a) ⟨[],rfl,rfl,λj z e=>by simp at e,ah,ao t _⟩ ?_ ?_
 ·rintro i c a hi⟨ns,rfl,hl,r,h2,s2⟩;obtain⟨A,D⟩:=E i a hi s2;refine⟨A,λx d y=>?_⟩;simp only[Ir,if_true];refine D x d y _ λz f u F=>⟨u _ _ h2,by rw[bD];lia,nx hi ⟨ns++[z],by simp,by simp[hl],λj y e=>?_,ah,lR (s2.trans u) t⟩⟩;by_cases hj:j<ns.length;·rw[List.getElem?_append_left hj]at e;exact r j y e
  ·rw[List.getElem?_append_right (by lia)]at e;have :j-ns.length=0:=by
    by_cases q:j-ns.length=0;·exact q
    ·rw[List.getElem?_eq_none (by simp;lia)]at e;cases e
   rw[this]at e;simp at e;subst e;have :j=i:=by lia
   rw[this];exact F
 ·rintro c a⟨ns,rfl,hl,r,h2,s2⟩;exact hd ns a s2 hl r h2
theorem nP{m:Int}:∀(r:List Int)(a:Int),a<=m->(∀z∈r,z<=m)->r.foldl IZ a<=m|[],a,h,_=>h|z::r,a,h,hr=>by refine nP r _ ?_ λy b=>hr y (ck _ b);have :=hr z bI;unfold IZ;split<;>lia
theorem maxD_le{ns:List Int}{d m:Int}(hd:d<=m)(h:∀z∈ns,z<=m):maxD ns d<=m:=by cases ns with|nil=>exact hd|cons a r=>exact nP r a (h a bI) λz b=>h z (ck _ b)
end L3
end
section
namespace L3
open PySem PySem.Spec PyProof.Rows L2
theorem M7{X:Cx}{ix:Nat}{x:Str}{pos' apos:Pos}{tg iter G:Expr}{K:List Expr}{scope:Scope}{pos:Pos}{wi:TI}{g:TG}{tt:TT}{te:TE}{N':List Str}{own:Nat}{fr:List Nat}(hN:X.N.Nodup)(Xx:X.N[ix]?=some x)(hlx:X.env.scope.names.lookup x=some .local)(hc:X.calm=true)(S:lV X N' own fr scope)(hi:PI X tg iter wi)(ho:Own own g)(hg:∀E B fp,PG (du X N' scope E B fp) tg g)(hf:∀E B fp,Bc (du X N' scope E B fp) K tt)(he:∀E B fp,PE (du X N' scope E B fp) G te)(hsw:swapsWithSole [.Name x pos'] (.ListComp G [⟨tg,iter,K,0⟩] scope pos) apos.line X.env=pure true:=by rfl)(hs:∀x,foldedSetIterable iter X.env x=pure x:=by intro _;rfl):PS X (.Assign [.Name x pos'] (.ListComp G [⟨tg,iter,K,0⟩] scope pos) apos) (MP (OM own fr wi g tt te) (sj ix)):=by
 intro pins s σ H D I h;have LA:∀x∈scope.names,x.2= .free->∃c,X.env.cells.lookup x.1=some c:=λx hx e=>I.ok.has x.1 (S.free x hx e);rw[exec_Assign_arm];refine zQ00 (wpAny_standAt (zQ00 (wpAny_of_eq hsw ?_)));rw[if_pos rfl,arm_evalThenUse_ListComp];refine zQ00 (zQ00 (wpAny_mono (Q:=λ_ s'=>SP X pins D .next s') ?_ (λ_ s' q=>zQ02 (zQ02 q)) λ_ _ z=>z));refine wpAny_comprehension_free (use:=some _) (Q:=λ_ s'=>SP X pins D .next s') rfl hs (sZ LA) S.kind S.loc ?_;refine bE (hi pins s σ H _ I h) λv s1 h1=>bE h1 λZh s2 h2=>?_;obtain⟨it,fp,tn,J,d,e,I2,T,Sl,f2,h2⟩:=h2;subst e;refine jV (hd:=by size_fits) (wpAny_newFunctionEnv S.wj (by intro y hy;simp at hy) (λh4 V Z=>?_) S.kind);have pj:=I2.bT.fresh (zQ04 s2.heap.objs.size);obtain⟨W,⟨m0,w0⟩,turn⟩:=h2 _ pj;have k:Inv X pins σ (upd d s2.heap.objs.size (.lst [])) {s2 with heap:=s2.heap.push {cls:= .type "list",dict:=none,data:= .seq ([]:List Value).toArray},toks:=s2.toks}:=I2.IV .nil (zQ25 _);have Xe:∀b∈fp,b<s2.heap.objs.size:=λb hb=>let⟨o,e,_⟩:=T.obj _ _ Sl b hb;zQ09 e;have up2:∀b o,s2.heap.get? b=some o->∀ob:Obj,(s2.heap.push ob).get? b=some o:=λb o e ob=>zQ01 _ e;have VI:(s2.heap.push {cls:= .type "list",dict:=none,data:= .seq ([]:List Value).toArray}).objs.size=s2.heap.objs.size+1:=zQ27 ..;revert V Z k;generalize e3:s2.heap.push {cls:= .type "list",dict:=none,data:= .seq ([]:List Value).toArray}=h3 at VI⊢;intro V Z k;have keep:∀b o,h3.get? b=some o->h4.get? b=some o:=λb o e=>(Z.2 b (zQ18 (zQ09 e))).trans (zQ01 _ e);have R:∀b∈fp,lq X pins (upd d s2.heap.objs.size (.lst [])) b/\b<h3.objs.size:=λb hb=>by refine⟨⟨?_,(f2 b hb).2⟩,by rw[VI];exact Nat.lt_succ_of_lt (Xe b hb)⟩;rw[aP (zQ18 (Xe b hb))];exact(f2 b hb).1
 have F:=Fw (t4:=s2.toks+([]:List (Str×Value)).length) S k R keep V;have R_:tn 0 h4:=T.keep _ _ _ Sl λb hb o e=>keep b o (by rw[<-e3];exact up2 b o e _);have r_:∀{H':Hp},(∀b∈fp,H' b=none)->∀b∈fp,lq (du X N' scope {s2 with heap:=h3,toks:=s2.toks} (upd d s2.heap.objs.size (.lst [])) fp) [] H' b:=λ{H'}hn b hb=>⟨hn b hb,zQ18 (R b hb).2,λz=>F.ok.Gn b hb z, .inl hb,(F.ok.YL b hb).2,λp Y=>(f2 b hb).2.2.2.2.2 p (List.mem_append_left _ (by simpa using Y))⟩;have loop:∀M:Shared,Inv (du X N' scope {s2 with heap:=h3,toks:=s2.toks} (upd d s2.heap.objs.size (.lst [])) fp) [] (gE own fr σ) (upd d s2.heap.objs.size (.lst [])) M->tn 0 M.heap->codeAny (model X.prog X.w) X.A (.compLoop (.ListComp G [⟨tg,iter,K,0⟩] scope pos) 0 (.ref it) (.ref s2.heap.objs.size) (CF X scope h3.objs.size)) (compPost (model X.prog X.w) X.A X.xe (some λv=>assignAll v ((assignEach [.Name x pos'] X.env).map (·.2))) (λ_ s'=>SP X pins D .next s') (.ref s2.heap.objs.size) h3.objs.size) M:=by
  intro M Ix tx;refine nU (λn s'=>∃i t H',Inv (du X N' scope {s2 with heap:=h3,toks:=s2.toks} (upd d s2.heap.objs.size (.lst [])) fp) [] (gE own fr σ) H' s'/\tn i s'.heap/\(∀b∈fp,H' b=none)/\W i n t H') ?_ m0 ⟨0,[],_,Ix,tx,λb hb=>(R b hb).1.1,w0⟩;rintro n s5⟨i,t,C,I5,Mb,Rh,w5⟩;rcases turn i n t C w5 with⟨stop,qn⟩|⟨go,step⟩
  ·refine bE (T.done (du X N' scope {s2 with heap:=h3,toks:=s2.toks} (upd d s2.heap.objs.size (.lst [])) fp) rfl rfl rfl hc i [] s5 _ C (λ_ _=>False) I5 (r_ Rh) Mb stop) λr L a=>?_;obtain⟨hr,w⟩:=a;subst hr;obtain⟨m6,hm6,_⟩:=id w.loc;have O:Inv X pins σ C L:=k.KG (s':=L) (ch:=fp) w.os (se (h2:=L.heap) w.base (zQ04 _) ⟨rfl,λ_ _=>rfl⟩) w.bT w.bare λb hb=>⟨(f2 b hb).2.2.2.1,(f2 b hb).2.1,(f2 b hb).2.2.2.2.1,(f2 b hb).2.2.2.2.2⟩;show wpAny _ _ (assign (.Name x pos') X.env (.ref s2.heap.objs.size)) _ _ _;refine wpAny_assign_Name (u_ (v:= .ref s2.heap.objs.size) O hN Xx (.inl hlx) rfl (λs8 P a=>?_) (.inr hlx));obtain⟨a8,sb8,ha8⟩:=a;have ltc:∀y c,X.env.cells.lookup y=some c->c<h3.objs.size:=λy c e=>by obtain⟨v,o,eo,_⟩:=k.cell y c e;exact zQ09 eo
   have na8:h3.objs.size≠a8:=by
    rcases ha8 with z|z;·rw[z];exact Nat.ne_of_gt k.lt
    ·exact Nat.ne_of_gt (ltc _ _ z)
   obtain⟨o6,es6,ep6,ho6,r6⟩:=hm6;refine⟨m6,⟨o6,es6,ep6,(sb8.2 _ na8).trans ho6,r6⟩,λh9 hs9=>?_⟩;have l:=P.turned (h':=h9) (t':=s8.toks) (it:=h3.objs.size) (λb o hb e=>(hs9.2 b hb).trans e) w.free (Nat.ne_of_gt k.lt) (.inr k.sz) (λy c e=>zQ18 (ltc y c e)) λp Y=>zQ18 (zQ09 (k.pin p Y).1);exact⟨_,C,l,qn⟩
  ·refine bE (T.item (du X N' scope {s2 with heap:=h3,toks:=s2.toks} (upd d s2.heap.objs.size (.lst [])) fp) rfl rfl rfl hc i [] s5 _ C (λ_ _=>False) I5 (r_ Rh) Mb go) λr L a=>?_;obtain⟨u,hr,h6⟩:=a;subst hr;refine bE h6 λ_ s7 a=>?_;obtain⟨x,H7,O,r7,y7,SQ,fr7⟩:=a;have I7':=O.pinned (r_ fr7) (T.obj _ _ SQ);refine bE (hg _ _ _ _ s7 _ H7 x u _ I7' r7 (ho _ _ _ _ (step x H7 y7))) λ_ s8 a=>?_;obtain⟨N,H8,P,q8,l8,k8⟩:=a;have again:∀{m:Hp}{A:Shared},Inv (du X N' scope {s2 with heap:=h3,toks:=s2.toks} (upd d s2.heap.objs.size (.lst [])) fp) ([]++nD fp s7.heap) N m A->Inv (du X N' scope {s2 with heap:=h3,toks:=s2.toks} (upd d s2.heap.objs.size (.lst [])) fp) [] (gE own fr σ) m A/\tn (i+1) A.heap/\∀b∈fp,m b=none:=λ{m A}l=>by
    refine⟨l.jz.weak l8.symm λj v e=>?_,T.keep _ _ _ SQ λb hb o e=>(l.pin (b,o) (kx _ (kx _ (eD hb e)))).1,λb hb=>?_⟩
    ·have hj:own<=j:=by refine Nat.le_of_not_lt λz=>?_;unfold gE at e;rw[List.getElem?_append_left (by simpa using z),List.getElem?_replicate]at e;split at e<;>cases e
     rw[k8 j hj];exact e
    ·obtain⟨o,e,_⟩:=T.obj _ _ SQ b hb;exact(l.pin (b,o) (kx _ (kx _ (eD hb e)))).2.1
   refine bE (hf _ _ _ _ s8 N H8 _ P q8) λok A a=>?_;obtain⟨m,l,q9⟩:=a;cases ok with|false=>obtain⟨m',U,w9⟩:=q9;obtain⟨a1,a2,a3⟩:=again l;exact⟨m',U,i+1,t,m,a1,a2,a3,w9⟩|true=>refine bE (he _ _ _ _ A N m _ l q9) λy LR a=>?_;obtain⟨v,Lr,I10,XF,Si,QS,m',U,w10⟩:=a;refine bE (dj _ LR N Lr (.ref s2.heap.objs.size) [v] (.ref s2.heap.objs.size) [y] (λ_ Hn=>Hn=upd Lr s2.heap.objs.size (.lst (t++[v]))) I10 rfl (.cons XF .nil) ⟨_,t,v,rfl,rfl,Si,QS,rfl⟩) λ_ Y9 a=>?_;obtain⟨_,Zo,I11,_,e11⟩:=a;subst e11;obtain⟨a1,a2,a3⟩:=again I11;exact⟨m',U,i+1,t++[v],_,a1,a2,a3,w10⟩
 exact codeAny_compStart_list (loop _ F R_) (wpAny_mono (T.self X.A 0 _ (λv s'=>v= .ref it/\s'=_) (λ_ _=>False) R_ ⟨rfl,rfl⟩) (λv s'⟨e1,e2⟩=>by subst e1;subst e2;exact loop _ F R_) λ_ _ f=>f.elim)
end L3
end
section
namespace L3
open PySem PySem.Spec PyProof.Rows L2 KM
section
variable{X:Cx}
noncomputable def Sw:V->List V->Hp->VK->Prop:=λx vs H Q=>∃(z y:Str)(i:Nat)(rest:List Nat),x= .str z/\vs=[.str y]/\Builtin.Str.occurrences z y 0 z.length 1=i::rest/\Q (.int (i:Nat)) H
theorem JS:Tv X "str.index" Sw:=by intro pins s σ H x vs v us Q I c b h;obtain⟨z,y,i,rest,rfl,rfl,ho,q⟩:=h;obtain⟨u,rfl,a⟩:=b.one;obtain⟨t,rfl⟩:=(show∃t,v=Value.str z t from c);obtain⟨d,rfl⟩:=(show∃t,u=Value.str y t from a);exact SC.index ho ⟨.int (i:Nat),H,I.tok _,⟨_,rfl⟩,q⟩
theorem uc:∀{ys:List Str}{us:List Value},Vals (ys.map V.str) us->StrsAre us ys|[],_, .nil=> .nil|y::ys,_, .cons r t=>by obtain⟨tk,rfl⟩:=(show∃t,_=Value.str y t from r);exact .cons y tk (uc t)
noncomputable def rJoin(K:PySem.W.Frag):V->List V->Hp->VK->Prop:=λx vs H Q=>∃(z:Str)(l:Addr)(ys:List Str),x= .str z/\vs=[.ref l]/\aZ K H l (ys.map V.str)/\(ys.map (·.length)).sum+ys.length*z.length<=16777216/\Q (.str (Txt.join z ys)) H
theorem NI:Tv X "str.join" (rJoin X.K):=by intro pins s σ H x vs v us Q I c b h;obtain⟨z,l,ys,rfl,rfl,hl,ho,q⟩:=h;obtain⟨u,rfl,a⟩:=b.one;obtain⟨t,rfl⟩:=(show∃t,v=Value.str z t from c);cases a;obtain⟨its,r,p,_⟩:=I.list hl;exact join_list p.isList (by simpa using uc r) ho λt' k=>⟨.str _,H,I.tok _,⟨_,rfl⟩,q⟩
theorem GR(hh:X.A.handled=none):gm X (.builtin "min") (λxs H Q=>∃i j:Int,xs=[.int i, .int j]/\Q (.int (if j<i then j else i)) H):=by
 intro pins s σ H xs us Q I r h;obtain⟨i,j,rfl,q⟩:=h;obtain⟨d,e,rfl,b,c⟩:=Vals.two r;obtain⟨f,rfl⟩:=(show∃t,d=Value.int i t from b);obtain⟨g,rfl⟩:=(show∃t,e=Value.int j t from c);refine min_two_ints hh λh' tk a=>⟨.int (if j<i then j else i),H,I.kept (h':=h') (t':=tk) a,?_,q⟩;split;·exact⟨_,rfl⟩
 ·exact⟨_,rfl⟩
theorem uX(hh:X.A.handled=none):gm X (.builtin "max") (λxs H Q=>∃i j:Int,xs=[.int i, .int j]/\Q (.int (if j>i then j else i)) H):=by
 intro pins s σ H xs us Q I r h;obtain⟨i,j,rfl,q⟩:=h;obtain⟨d,e,rfl,b,c⟩:=Vals.two r;obtain⟨f,rfl⟩:=(show∃t,d=Value.int i t from b);obtain⟨g,rfl⟩:=(show∃t,e=Value.int j t from c);refine max_two_ints hh λh' tk a=>⟨.int (if j>i then j else i),H,I.kept (h':=h') (t':=tk) a,?_,q⟩;split;·exact⟨_,rfl⟩
 ·exact⟨_,rfl⟩
end
section
variable{X:Cx}{pins:List (Addr×Obj)}{σ:L2.St}{H:Hp}{s:Shared}{a:Addr}{D:List (Str×V)}{k:Str}{tk:Tok}{A:Around}{E:Value->Shared->Prop}
theorem Km{Q:Value->Shared->Prop}{x:V}{b:Value}(T:ic X.K a D)(I:Inv X pins σ H s)(d:RelV x b)(h:∀c,RelV ((KTD.datumAt k D).getD x) c->Q c {s with toks:=s.toks+1}):wpAny (model X.prog X.w) A (call (.builtin "dict.get") [.ref a, .str k tk,b]) Q E s:=by
 have ty:=T.typeIs I;refine gP PySem.F.slot_dict_get ty PySem.F.entry_dict_get ?_ (PySem.F.args_dict_get_3 _ _ _);show wpAny (model X.prog X.w) _ (dictGet a (.str k tk)>>=_) _ _ s;refine zQ00 (qK T I (λv u e r=>?_) λhn=>?_);·have h:=h u (by rw[e];exact r);exact zQ02 ⟨u,rfl,h⟩
 ·have h:=h b (by rw[hn];exact d);refine zQ00 ?_;unfold Builtin.Dict.missed;rw[T.sys];simp only[Bool.false_eq_true,if_false];exact zQ02 (zQ02 ⟨_,rfl,h⟩)
end
noncomputable def Ts(K:PySem.W.Frag)(e ty tx:TE):TE:=λσ H Q=>e σ H λx b=>∃a D,x= .ref a/\ic K a D/\ty σ b λy c=>tx σ c λz d=>∃k,y= .str k/\Q ((KTD.datumAt k D).getD z) d
theorem Jw{X:Cx}{o e f:Expr}{apos dA:Pos}{g ty tx:TE}(ho:PE X o g)(he:PE X e ty)(v:PE X f tx)(m:M2 X o "get" apos e f dA):PE X (.Call (.Attribute o "get" apos) [e,f] [] dA) (Ts X.K g ty tx):=by
 intro pins s σ H Q I h;refine wpAny_Call_method m.base m.LL m.line PySem.F.plainAttrs_dict PySem.F.slot_dict_get PySem.F.type_dict_get (bE (ho pins s σ H _ I h) λu s1 E=>?_);obtain⟨x,i,c,w,a,D,ex,T,q1⟩:=E;subst ex;obtain rfl:u=Value.ref a:=w;have C:=T.typeIs c;refine⟨C,λb q=>?_,?_⟩;·cases q;obtain⟨o,_,_,e,x,_⟩:=T.ex;exact⟨o,c.jl a o e,x.2.1⟩
 rw[m.trees];refine Calls.callWith_builtin rfl (Calls.evalArgs_plain (Calls.spliced_cons (bE (he pins s1 σ i _ c q1) λG s2⟨y,j,n,A,q2⟩=>Calls.spliced_cons (bE (v pins s2 σ j _ n q2) λF J⟨z,l,d,B,k,p,q3⟩=>Calls.spliced_nil ?_))));subst p;obtain⟨t,rfl⟩:=A;exact Km T d B λK r=>⟨_,l,d.tok _,r,q3⟩
theorem IS:bootBuiltins "min"=some (.builtin "min"):=by decide+kernel
mutual noncomputable def uH:D->PyData| .bA=> .none| .bl b=> .bool b| .int i=> .int i| .str x=> .str x| .tup ds=> .tuple (A5 ds)noncomputable def A5:List D->List PyData|[]=>[]|d::ds=>uH d::A5 ds end
mutual theorem AJ:∀d:D,(uH d).depth<=depth d| .bA=>zQ25 _| .bl _=>zQ25 _| .int _=>zQ25 _| .str _=>zQ25 _| .tup ds=>by show PyData.depthAll (A5 ds)+1<=1+aF ds;have :=vn ds;lia theorem vn:∀ds:List D,PyData.depthAll (A5 ds)<=aF ds|[]=>zQ25 _|d::ds=>by show max (uH d).depth (PyData.depthAll (A5 ds))<=max (depth d) (aF ds);have h1:=AJ d;have h2:=vn ds;lia end
section
variable{X:Cx}{pins:List (Addr×Obj)}{σ:L2.St}{H:Hp}{s:Shared}
mutual theorem hU(I:Inv X pins σ H s):∀{d:D}{v:V}{u:Value},Rep H d v->RelV v u->∃as,Reads s.heap u (uH d) as| .bA,_,u,r,ru=>by have r:_=V.bA:=r;subst r;cases(show u=Value.none from ru);exact⟨_, .none⟩| .bl b,_,u,r,ru=>by have r:_=V.bl b:=r;subst r;cases(show u=Value.bool b from ru);exact⟨_, .bool b⟩| .int i,_,u,r,ru=>by have r:_=V.int i:=r;subst r;obtain⟨t,rfl⟩:=(show∃t,u=Value.int i t from ru);exact⟨_, .int i t⟩| .str x,_,u,r,ru=>by have r:_=V.str x:=r.1;subst r;obtain⟨t,rfl⟩:=(show∃t,u=Value.str x t from ru);exact⟨_, .str x t⟩| .tup ds,_,u,r,ru=>by obtain⟨a,vs,e,ha,rs⟩:=r;subst e;cases(show u=Value.ref a from ru);obtain⟨its,rv,⟨o,ho,hc,n,hd⟩,_⟩:=I.tuple (cu.of (K:=X.K) ha);obtain⟨as,h⟩:=rN I rs rv;exact⟨as, .tuple ho hc hd (by simpa using h)⟩theorem rN(I:Inv X pins σ H s):∀{ds:List D}{vs:List V}{us:List Value},bK H ds vs->Vals vs us->∃as,ReadsAll s.heap us (A5 ds) as|[],_,us,r,rv=>by have r:_=[]:=r;subst r;cases rv;exact⟨_, .nil⟩|d::ds,_,us,⟨v,r,e,q,t⟩,rv=>by subst e;cases rv with|cons a b=>obtain⟨as,h1⟩:=hU I q a;obtain⟨bs,h2⟩:=rN I t b;exact⟨_, .cons h1 h2⟩end
end
mutual noncomputable def cI:D->Bool| .bA=>true| .bl _=>false| .int _=>true| .str x=>(PyData.str x).canLay0| .tup ds=>ju ds noncomputable def ju:List D->Bool|[]=>true|d::ds=>cI d&&ju ds end
mutual theorem Fg:∀d:D,cI d=true->(uH d).canLay0=true| .bA,_=>rfl| .bl _,h=>by cases h| .int _,_=>rfl| .str x,h=>h| .tup ds,h=>BL ds h theorem BL:∀ds:List D,ju ds=true->PyData.canLayAll0 (A5 ds)=true|[],_=>rfl|d::ds,h=>by have h:(cI d&&ju ds)=true:=h;rw[bF]at h;show((uH d).canLay0&&PyData.canLayAll0 (A5 ds))=true;rw[Fg d h.1,BL ds h.2];rfl end
mutual theorem Eu:∀d e:D,cI d=true->cI e=true->(PyData.eqv (uH d) (uH e)=true↔d=e)| .bl _,_,h,_=>by cases h| .bA,e,_,h=>by cases e<;>simp[uH,PyData.eqv,cI]at h⊢| .int i,e,_,h=>by cases e<;>simp[uH,PyData.eqv,cI]at h⊢| .str x,e,_,h=>by cases e<;>simp[uH,PyData.eqv,cI]at h⊢| .tup ds, .tup es,h,h'=>by show PyData.eqvAll (A5 ds) (A5 es)=true↔_;rw[AH ds es h h'];simp| .tup ds, .bA,_,_=>by simp[uH,PyData.eqv]| .tup ds, .bl _,_,h=>by cases h| .tup ds, .int _,_,_=>by simp[uH,PyData.eqv]| .tup ds, .str _,_,_=>by simp[uH,PyData.eqv]theorem AH:∀ds es:List D,ju ds=true->ju es=true->(PyData.eqvAll (A5 ds) (A5 es)=true↔ds=es)|[],[],_,_=>by simp[A5,PyData.eqvAll]|[],_::_,_,_=>by simp[A5,PyData.eqvAll]|_::_,[],_,_=>by simp[A5,PyData.eqvAll]|d::ds,e::es,h,h'=>by have h:(cI d&&ju ds)=true:=h;have h':(cI e&&ju es)=true:=h';rw[bF]at h h';show(PyData.eqv (uH d) (uH e)&&PyData.eqvAll (A5 ds) (A5 es))=true↔_;rw[bF,Eu d e h.1 h'.1,AH ds es h.2 h'.2];simp end
noncomputable def Vi(eq:Bool):R2:=λx y H Q=>∃(d e:D)(z:Bool),Rep H d x/\Rep H e y/\depth d<=60/\depth e<=60/\cI d=true/\cI e=true/\(z=true↔d=e)/\Q (.bl (z==eq)) H
theorem T8{d:D}(h:cI d=true)(hd:depth d<=60):SeqAt.shaped (uH d)=true:=by unfold SeqAt.shaped;rw[Fg d h,Bool.true_and];exact decide_eq_true (cw (AJ d) (by lia))
theorem Pe{d e:D}{z:Bool}(h1:cI d=true)(h2:cI e=true)(a:z=true↔d=e):PyData.eqv (uH d) (uH e)=z:=by have :=Eu d e h1 h2;cases z with|true=>exact this.mpr (a.mp rfl)|false=>cases q:PyData.eqv (uH d) (uH e)with|false=>rfl|true=>exact absurd (a.mpr (this.mp q)) (by simp)
theorem Tx{X:Cx}(c:X.A.units+64<cLine):jH X (compareOp .Eq) (Vi true):=by intro pins s σ H x y v u Q I j k h;obtain⟨d,e,z,g,i,hd,he,a,b,f,q⟩:=h;obtain⟨as,h1⟩:=hU I g j;obtain⟨bs,h2⟩:=hU I i k;refine SeqAt.compareEq_shaped h1 h2 (T8 a hd) (T8 b he) c ⟨_,H,I,?_,q⟩;rw[Pe a b f];show Value.bool _=Value.bool _;cases z<;>rfl
theorem zE{X:Cx}(c:X.A.units+64<cLine):jH X (compareOp .NotEq) (Vi false):=by intro pins s σ H x y v u Q I j k h;obtain⟨d,e,z,g,i,hd,he,a,b,f,q⟩:=h;obtain⟨as,h1⟩:=hU I g j;obtain⟨bs,h2⟩:=hU I i k;refine SeqAt.compareNe_shaped h1 h2 (T8 a hd) (T8 b he) c ⟨_,H,I,?_,q⟩;rw[Pe a b f];show Value.bool _=Value.bool _;cases z<;>rfl
def Mk(σ:L2.St)(H0:Hp)(a:TE)(d:D):Prop:=∀H,aE H0 H->∀R:V->Hp->Prop,(∀v H',aE H H'->Rep H' d v->R v H')->a σ H R
def YT(σ:L2.St)(H0:Hp)(a:TA)(ds:List D):Prop:=∀H,aE H0 H->∀R:List V->Hp->Prop,(∀vs H',aE H H'->bK H' ds vs->R vs H')->a σ H R
theorem rE{σ:L2.St}{H0:Hp}{x:Str}(h:x.length<=1000:=by decide+kernel):Mk σ H0 (tC (.str x)) (.str x):=λH _ R a=>a _ H (aE.refl H) ⟨rfl,h⟩
theorem JR{σ:L2.St}{H0:Hp}{i:Int}:Mk σ H0 (tC (.int i)) (.int i):=λH _ R a=>a _ H (aE.refl H) rfl
theorem lF{σ:L2.St}{H0:Hp}:YT σ H0 nE []:=λH _ R a=>a [] H (aE.refl H) rfl
theorem cV{σ:L2.St}{H0:Hp}{b:TE}{a:TA}{d:D}{ds:List D}(h1:Mk σ H0 b d)(h2:YT σ H0 a ds):YT σ H0 (dv b a) (d::ds):=λH s R f=>h1 H s _ λv c s1 g=>h2 c (s.trans s1) _ λvs e s2 h=>f _ e (s1.trans s2) ⟨v,vs,rfl,g.mono s2,h⟩
theorem rK{σ:L2.St}{H0:Hp}{c:TA}{ds:List D}(h:YT σ H0 c ds)(hl:ds.length<=sizeLine:=by decide):Mk σ H0 (DV c) (.tup ds):=λH s R d=>h H s _ λvs e s1 b=>⟨by rw[b.length];exact hl,λp a=>d _ _ (s1.trans (ao a _)) ⟨p,vs,rfl,ah,b.mono (ao a _)⟩⟩
section
variable{P:Program}{w:World}
open SeqAt MeetsSeq3 in open SeqAt MeetsSeq3 in end
section
variable{X:Cx}
end
theorem JU{J:It}{p:Addr}{l:Hp}{g:TG}{q:TT}{o:TE}{b:L2.St}{C:Hp->Prop}(n:Nat)(Pv:Nat->List V->Hp->Prop)(r:Pv 0 [] (upd l p (.lst [])))(s:∀i a c,i<n->Pv i a c->J.go i c/\∀x d,J.An i c x d->g x b d λj k=>q j k λok e=>if ok=true then o j e λv f=>f p=some (.lst a)/\a.length<sizeLine/\Nx n i (Pv (i+1) (a++[v]) (upd f p (.lst (a++[v]))))else Nx n i (Pv (i+1) a e))(hd:∀a c,Pv n a c->J.stop n c/\C c):∃W:Nat->Nat->List V->Hp->Prop,(∃m,W 0 m [] (upd l p (.lst [])))/\∀i m a c,W i m a c->(J.stop i c/\C c)\/(J.go i c/\∀x d,J.An i c x d->g x b d λj k=>q j k λok e=>if ok=true then o j e λv f=>f p=some (.lst a)/\a.length<sizeLine/\∃h,h<m/\W (i+1) h (a++[v]) (upd f p (.lst (a++[v])))else∃h,h<m/\W (i+1) h a e):=pV (Q:=λ_ H=>C H) n Pv r s hd
end L3
end
section
namespace L3
open PySem
theorem m9{M:Model}{a:Ctx}{p:Pos}{t:Sem Fin}{fs:List Frame}{s s':Shared}{e:End}(h:Runs M a p t fs s e s'):s.toks<=s'.toks:=by induction h<;>first|exact zQ04 _|assumption|(apply cw _ (by assumption);exact Nat.le_succ _)|(apply cw<;>assumption)
theorem wp_toks{u:Type}{M:Model}{j:Ctx}(n:Nat)(t:Sem u):∀{Q:u->Pos->Shared->Prop}{E:Value->Pos->Shared->Prop}{p:Pos}{s:Shared},n<=s.toks->Sem.wp M j t Q E p s->Sem.wp M j t (λa i s'=>Q a i s'/\n<=s'.toks) (λe i s'=>E e i s'/\n<=s'.toks) p s:=by
 induction t with
  |pure a=>intro Q E p s hn h;rw[Sem.wp]at h⊢;exact⟨h,hn⟩
  |raise e=>intro Q E p s hn h;rw[Sem.wp]at h⊢;exact⟨h,hn⟩
  |unsupported w=>intro Q E p s hn h;rw[Sem.wp]at h;exact h.elim
  |finish w=>intro Q E p s hn h;rw[Sem.wp]at h;exact h.elim
  |rule z k b=>intro Q E p s hn h;rw[Sem.wp]at h⊢;exact b _ hn h
  |«at» i k b=>intro Q E p s hn h;rw[Sem.wp]at h⊢;exact b _ hn h
  |load a part k b=>intro Q E p s hn h;rw[Sem.wp]at h⊢;obtain⟨o,e,h⟩:=h;exact⟨o,e,b _ hn h⟩
  |update a part f k b=>intro Q E p s hn h;rw[Sem.wp]at h⊢;obtain⟨e,h⟩:=h;exact⟨e,b _ hn h⟩
  |alloc o k b=>intro Q E p s hn h;rw[Sem.wp]at h⊢;exact b _ hn h
  |loadIfAlive a k b=>intro Q E p s hn h;rw[Sem.wp]at h⊢;exact b _ hn h
  |point l k b=>intro Q E p s hn h;rw[Sem.wp]at h⊢;exact b _ hn h
  |register a k b=>intro Q E p s hn h;rw[Sem.wp]at h;exact h.elim
  |fresh k b=>intro Q E p s hn h;rw[Sem.wp]at h⊢;exact b _ (cw hn (Nat.le_succ _)) h
  |ask k b=>intro Q E p s hn h;rw[Sem.wp]at h⊢;exact b _ hn h
  |choose src m k b=>intro Q E p s hn h;rw[Sem.wp]at h⊢;obtain⟨e,h⟩:=h;exact⟨e,b _ hn h⟩
  |os q l k b=>intro Q E p s hn h;rw[Sem.wp]at h⊢;exact b _ hn h
  |call c hd g l k b=>intro Q E p s hn h;rw[Sem.wp]at h⊢;obtain⟨r,s',hr,h⟩:=h;exact⟨r,s',hr,b _ (cw hn (m9 hr)) h⟩
  |handled own k b=>intro Q E p s hn h;rw[Sem.wp]at h⊢;exact b _ hn h
  |newGen c k b=>intro Q E p s hn h;rw[Sem.wp]at h⊢;exact b _ hn h
  |genState g k b=>intro Q E p s hn h;rw[Sem.wp]at h⊢;obtain⟨st,e,h⟩:=h;exact⟨st,e,b _ hn h⟩
  |resume g r l k b=>
   intro Q E p s hn h;rw[Sem.wp]at h⊢;obtain⟨y,s',hw,h⟩:=h;refine⟨y,s',hw,b _ ?_ h⟩;unfold Wakes at hw;split at hw;·exact hw.elim
   ·split at hw;·obtain⟨x,s1,hr,_,_,rfl⟩:=hw;have q:=m9 hr;exact cw hn q
    ·obtain⟨_,rfl⟩:=hw;exact hn
    ·obtain⟨_,rfl⟩:=hw;exact hn
   ·obtain⟨x,s1,hr,_,_,rfl⟩:=hw;have q:=m9 hr;exact cw hn q
   ·obtain⟨_,rfl⟩:=hw;exact hn
   ·obtain⟨_,rfl⟩:=hw;exact hn
  |yield v g l k b=>intro Q E p s hn h;rw[Sem.wp]at h;exact h.elim
  |stack k b=>intro Q E p s hn h;rw[Sem.wp]at h⊢;exact b _ hn h
  |fork c k b=>intro Q E p s hn h;rw[Sem.wp]at h;exact h.elim
  |thread k b=>intro Q E p s hn h;rw[Sem.wp]at h⊢;exact b _ hn h
  |await a f d l k b=>intro Q E p s hn h;rw[Sem.wp]at h;exact h.elim
theorem wpAny_toks{b:Type}{M:Model}{A:Around}{t:Sem b}{Q:b->Shared->Prop}{E:Value->Shared->Prop}{s:Shared}(n:Nat)(hn:n<=s.toks)(h:wpAny M A t Q E s):wpAny M A t (λa s'=>Q a s'/\n<=s'.toks) (λe s'=>E e s'/\n<=s'.toks) s:=λc p hi=>wp_toks n t hn (h c p hi)
theorem Ny{c:Type}{M:Model}{A:Around}{t:Sem c}{Q b:c->Shared->Prop}{E:Value->Shared->Prop}{s:Shared}(f:0<s.toks)(h:wpAny M A t Q E s)(d:∀a s',0<s'.toks->Q a s'->b a s'):wpAny M A t b E s:=wpAny_mono (wpAny_toks 1 f h) (λa s' z=>d a s' z.2 z.1) λe s' z=>z.1
end L3
end
section
namespace L3
open PySem PySem.Builtin PySem.Builtin.Str PySem.StrLaws
noncomputable def kD(c:Nat):Nat->List Nat->List Nat|_,[]=>[]|a,x::r=>if x=c then a::kD c (a+1) r else kD c (a+1) r
noncomputable def eh(c:Nat):List Nat->List (List Nat)|[]=>[[]]|x::r=>if x=c then[]::eh c r else match eh c r with|[]=>[[x]]|w::ws=>(x::w)::ws
theorem ny(c:Nat)(l:List Nat):∃w ws,eh c l=w::ws:=by
 cases l with
  |nil=>exact⟨_,_,rfl⟩
  |cons x r=>
   rw[eh];split;·exact⟨_,_,rfl⟩
   ·split<;>exact⟨_,_,rfl⟩
theorem qI(x:Str)(c hi limit:Nat)(hh:hi=x.length)(hl:hi<limit):∀(m lo:Nat)(st:Array Nat×Nat),lo+m=hi+1->st.1.size<=lo->st.2<=lo->(forIn (m:=Id) (List.range' lo m) st (occBody x ⟨#[c]⟩ hi limit)).run.1.toList=st.1.toList++kD c lo (x.cps.toList.drop lo)
 |0,lo,st,h,h1,h2=>by have :x.cps.toList.drop lo=[]:=List.drop_eq_nil_of_le (by have :x.length=x.cps.toList.length:=(by simp[Str.length]);lia);rw[this];simp[kD]
 |m+1,lo,st,h,h1,h2=>by
  rw[List.range'_succ,List.forIn_cons];have one:=subAt_one x c lo;have b:x.length=x.cps.toList.length:=by simp[Str.length]
  by_cases hlt:lo<x.cps.toList.length
  ·have hd:x.cps.toList.drop lo=x.cps.toList[lo]::x.cps.toList.drop (lo+1):=List.drop_eq_getElem_cons hlt;rw[hd,kD];unfold occBody;by_cases hc:x.cps.toList[lo]=c;·have q:=one.mpr (by rw[zQ03 hlt,hc]);rw[if_pos ⟨⟨⟨by lia,h2⟩,by rw[hh];exact q.1⟩,q.2⟩,if_pos hc];show(forIn (m:=Id) (List.range' (lo+1) m) (st.1.push lo,lo+1) (occBody x ⟨#[c]⟩ hi limit)).run.1.toList=_;rw[qI x c hi limit hh hl m (lo+1) (st.1.push lo,lo+1) (by lia) (by simp;lia) (zQ04 _)];simp
   ·have q:¬((((st.1.size<limit/\st.2<=lo)/\lo+(⟨#[c]⟩:Str).length<=hi)/\subAt x ⟨#[c]⟩ lo=true)):=λz=>by have :=one.mp ⟨by rw[<-hh];exact z.1.2,z.2⟩;rw[zQ03 hlt]at this;exact hc (Option.some.inj this)
    rw[if_neg q,if_neg hc];show(forIn (m:=Id) (List.range' (lo+1) m) (st.1,st.2) (occBody x ⟨#[c]⟩ hi limit)).run.1.toList=_;rw[qI x c hi limit hh hl m (lo+1) (st.1,st.2) (by lia) (by show st.1.size<=lo+1;lia) (by show st.2<=lo+1;lia)]
  ·have hd:x.cps.toList.drop lo=[]:=List.drop_eq_nil_of_le (by lia);rw[hd,kD];unfold occBody;have q:¬((((st.1.size<limit/\st.2<=lo)/\lo+(⟨#[c]⟩:Str).length<=hi)/\subAt x ⟨#[c]⟩ lo=true)):=λz=>by have h3:(⟨#[c]⟩:Str).length=1:=rfl;have :=z.1.2;lia
   rw[if_neg q];show(forIn (m:=Id) (List.range' (lo+1) m) (st.1,st.2) (occBody x ⟨#[c]⟩ hi limit)).run.1.toList=_;rw[qI x c hi limit hh hl m (lo+1) (st.1,st.2) (by lia) (by show st.1.size<=lo+1;lia) (by show st.2<=lo+1;lia)];have a:x.cps.toList.drop (lo+1)=[]:=List.drop_eq_nil_of_le (by lia);rw[a,kD]
theorem qv(x:Str)(c:Nat):occurrences x ⟨#[c]⟩ 0 x.length (x.length+1)=kD c 0 x.cps.toList:=by rw[occ_eq];have :=qI x c x.length (x.length+1) rfl (Nat.lt_succ_self _) (x.length+1) 0 (#[],0) (by lia) (by simp) (zQ04 _);simpa using this
theorem AU(x:Str)(i j:Nat):strSub x i j=⟨((x.cps.toList.drop i).take (j-i)).toArray⟩:=by apply PySem.Str.ext';apply Array.ext';rw[strSub_toList]
noncomputable def Bx(pre:List Nat):List (List Nat)->List (List Nat)|[]=>[]|w::ws=>(pre++w)::ws
theorem nI(x:Str)(c:Nat):∀(l pre:List Nat)(a b:Nat),x.cps.toList.drop a=pre++l->b=a+pre.length->c∉pre->partsFrom x 1 a (kD c b l)=(Bx pre (eh c l)).map λw:List Nat=>(⟨w.toArray⟩:Str)
 |[],pre,a,b,hd,hb,hc=>by
  have g:x.length=x.cps.toList.length:=by simp[Str.length]
  rw[kD,partsFrom,eh,AU];rw[eF]at hd;have hl:pre.length<=x.length-a:=by rw[<-hd,jP];lia
  rw[hd,rY hl];simp[Bx]
 |y::l,pre,a,b,hd,hb,hc=>by
  rw[kD,eh];by_cases d:y=c
  ·rw[if_pos d,if_pos d,partsFrom,AU,hd,hb];have f:(pre++y::l).take (a+pre.length-a)=pre:=by rw[show a+pre.length-a=pre.length by lia,List.take_left'];rfl
   rw[f];have h3:x.cps.toList.drop (a+pre.length+1)=[]++l:=by rw[show a+pre.length+1=a+(pre.length+1)by lia,<-List.drop_drop,hd];simp
   rw[nI x c l [] (a+pre.length+1) (a+pre.length+1) h3 (by simp) (by simp)];obtain⟨w,ws,e⟩:=ny c l;rw[e];simp[Bx]
  ·rw[if_neg d,if_neg d];rw[nI x c l (pre++[y]) a (b+1) (by rw[hd];simp) (by simp;lia) (by simp;exact⟨hc,λz=>d z.symm⟩)];obtain⟨w,ws,e⟩:=ny c l;rw[e];simp[Bx]
theorem u4(x:Str)(c:Nat):partsBetween x (occurrences x ⟨#[c]⟩ 0 x.length (x.length+1)) 1=(eh c x.cps.toList).map λw:List Nat=>(⟨w.toArray⟩:Str):=by rw[partsBetween_eq,qv,nI x c x.cps.toList [] 0 0 (by simp) rfl (by simp)];obtain⟨w,ws,e⟩:=ny c x.cps.toList;rw[e];simp[Bx]
noncomputable def gd(c:Nat)(z:List Nat)(l:List Nat):List Nat:=l.flatMap λa=>if a=c then z else[a]
theorem AW(c:Nat)(z:Str):∀l:List Nat,(Str.join z ((eh c l).map λw:List Nat=>(⟨w.toArray⟩:Str))).cps.toList=gd c z.cps.toList l
 |[]=>by simp[eh,Str.join,gd]
 |a::l=>by
  have b:=AW c z l;obtain⟨w,ws,e⟩:=ny c l;rw[eh];have d:gd c z.cps.toList (a::l)=(if a=c then z.cps.toList else[a])++gd c z.cps.toList l:=by simp[gd]
  rw[d];by_cases ha:a=c;·rw[if_pos ha,if_pos ha,<-b,e];simp[Str.join,PySem.Str.cps_append]
  ·rw[if_neg ha,if_neg ha,<-b,e];cases ws with|nil=>simp[Str.join]|cons u us=>simp[Str.join,PySem.Str.cps_append]
theorem AB{c:Nat}:∀{l:List Nat},kD c 0 l=[]\/c∉l->c∉l
 |l, .inr h=>h
 |l, .inl h=>by
  have e:∀(l:List Nat)(a:Nat),kD c a l=[]->c∉l:=λl=>by
   induction l with
    |nil=>intro a _;simp
    |cons x r d=>
     intro a h;rw[kD]at h;split at h;·cases h
     ·rename_i b;have :=d (a+1) h;simp;exact⟨λz=>b z.symm,this⟩
  exact e l 0 h
theorem vk{c:Nat}{z:List Nat}:∀{l:List Nat},c∉l->gd c z l=l
 |[],_=>rfl
 |a::l,h=>by
  have h:¬c=a/\c∉l:=by simpa using h
  have b:=vk (z:=z) h.2;unfold gd at b⊢;rw[List.flatMap_cons,b,if_neg λe=>h.1 e.symm];rfl
theorem replace_one(x z:Str)(c:Nat):(Txt.replace x ⟨#[c]⟩ z).cps.toList=gd c z.cps.toList x.cps.toList:=by
 unfold Txt.replace;rw[qv];have h1:(((⟨#[c]⟩:Str).length==0)&&(z.length==0))=false:=by rw[show(⟨#[c]⟩:Str).length=1 from rfl];rfl
 rw[h1,Bool.or_false];split;·rename_i h;have h:kD c 0 x.cps.toList=[]:=List.isEmpty_iff.mp h;rw[vk (AB (.inl h))]
 ·rw[glued_eq_join,show(⟨#[c]⟩:Str).length=1 from rfl];have :=u4 x c;rw[qv]at this;rw[this];exact AW c z _
theorem jL{c:Nat}:∀{l:List Nat},c∉l->eh c l=[l]
 |[],_=>rfl
 |a::l,h=>by
  have h:¬c=a/\c∉l:=by simpa using h
  rw[eh,if_neg λe=>h.1 e.symm,jL h.2]
noncomputable def sg(a:Nat):List Nat:=if a=40 then[32,40,32]else if a=41 then[32,41,32]else if a=10 then[32]else[a]
noncomputable def cP(l:List Nat):List (List Nat):=(eh 32 (l.flatMap sg)).filter λw=>!w.isEmpty
theorem oW(c:Nat)(z a b:List Nat):gd c z (a++b)=gd c z a++gd c z b:=List.flatMap_append
theorem Wa:∀l:List Nat,gd 10 [32] (gd 41 [32,41,32] (gd 40 [32,40,32] l))=l.flatMap sg
 |[]=>rfl
 |a::l=>by
  have e:gd 40 [32,40,32] (a::l)=(if a=40 then[32,40,32]else[a])++gd 40 [32,40,32] l:=by simp[gd]
  rw[e,oW,oW,Wa l,List.flatMap_cons];congr 1;unfold sg;by_cases h1:a=40;·subst h1;rfl
  ·rw[if_neg h1,if_neg h1];by_cases h2:a=41;·subst h2;rfl
   ·rw[if_neg h2];by_cases h3:a=10;·subst h3;rfl
    ·rw[if_neg h3];simp[gd,h2,h3]
theorem mG:∀{r t:List Nat},32∉r->eh 32 (r++32::t)=r::eh 32 t
 |[],t,_=>by rw[List.nil_append,eh,if_pos rfl]
 |a::r,t,h=>by
  have h:¬32=a/\32∉r:=by simpa using h
  rw[List.cons_append,eh,if_neg λe=>h.1 e.symm,mG h.2]
noncomputable def brk(c:Nat):Bool:=c==32||c==10||c==40||c==41
noncomputable def gX(d:List (List Nat))(r:List Nat):List (List Nat):=if r.isEmpty=true then d else d++[r]
noncomputable def gF(s:List (List Nat)×List Nat)(c:Nat):List (List Nat)×List Nat:=(if c=40\/c=41 then gX s.1 s.2++[[c]]else if brk c=true then gX s.1 s.2 else s.1,if brk c=true then[]else s.2++[c])
theorem Eh(d:List (List Nat))(r:List Nat):gX d r=d++[r].filter λw=>!w.isEmpty:=by unfold gX;cases r<;>simp
theorem mM:∀(l:List Nat)(d:List (List Nat))(r:List Nat),32∉r->gX (l.foldl gF (d,r)).1 (l.foldl gF (d,r)).2=d++((eh 32 (r++l.flatMap sg)).filter λw=>!w.isEmpty)
 |[],d,r,h=>by rw[List.flatMap_nil,eF,jL h];exact Eh d r
 |c::l,d,r,h=>by
  rw[List.foldl_cons,List.flatMap_cons];have a:∀t:List Nat,d++((eh 32 (r++32::t)).filter λw=>!w.isEmpty)=gX d r++((eh 32 t).filter λw=>!w.isEmpty):=λt=>by rw[mG h,Eh,List.append_assoc,<-List.filter_append];rfl
  by_cases h1:c=40;·subst h1;have e:gF (d,r) 40=(gX d r++[[40]],[]):=rfl;rw[e,mM l _ [] (by simp),show sg 40=[32,40,32]from rfl,List.nil_append];show _=d++((eh 32 (r++32::(40::32::l.flatMap sg))).filter λw=>!w.isEmpty);rw[a,show(40:Nat)::32::l.flatMap sg=[40]++32::l.flatMap sg from rfl,mG (by simp)];simp
  by_cases h2:c=41;·subst h2;have e:gF (d,r) 41=(gX d r++[[41]],[]):=rfl;rw[e,mM l _ [] (by simp),show sg 41=[32,41,32]from rfl,List.nil_append];show _=d++((eh 32 (r++32::(41::32::l.flatMap sg))).filter λw=>!w.isEmpty);rw[a,show(41:Nat)::32::l.flatMap sg=[41]++32::l.flatMap sg from rfl,mG (by simp)];simp
  have g:∀b,brk c=b->gF (d,r) c=(if b=true then gX d r else d,if b=true then[]else r++[c]):=λb hb=>by unfold gF;rw[if_neg (by lia),hb]
  by_cases h3:c=10\/c=32
  ·have f:sg c=[32]:=by unfold sg;rw[if_neg h1,if_neg h2];rcases h3 with h3|h3<;>subst h3<;>rfl
   have hb:brk c=true:=by rcases h3 with h3|h3<;>subst h3<;>rfl
   rw[g true hb,if_pos rfl,if_pos rfl,mM l _ [] (by simp),f,List.nil_append];show _=d++((eh 32 (r++32::l.flatMap sg)).filter λw=>!w.isEmpty);rw[a]
  ·have f:sg c=[c]:=by unfold sg;rw[if_neg h1,if_neg h2,if_neg (by lia)]
   have hb:brk c=false:=by unfold brk;simp;lia
   rw[g false hb,if_neg (by decide),if_neg (by decide),mM l _ (r++[c]) (by simp;exact⟨h,by lia⟩),f];simp
theorem RA(l:List Nat):gX (l.foldl gF ([],[])).1 (l.foldl gF ([],[])).2=cP l:=by rw[mM l [] [] (by simp)];simp[cP]
end L3
end
section
namespace L3
open PySem PySem.Spec PyProof.Rows L2 KM
section
variable{X:Cx}
noncomputable def J9(X:Cx)(e:Expr)(t:TE):Prop:=∀(pins:List (Addr×Obj))(s:Shared)(σ:L2.St)(H:Hp)(Q:VK),Inv X pins σ H s->0<s.toks->t σ H Q->wpAny (model X.prog X.w) X.A (eval e X.env) (EP X pins σ Q) X.xe s
noncomputable def LC(X:Cx)(st:Stmt)(t:TS):Prop:=∀(pins:List (Addr×Obj))(s:Shared)(σ:L2.St)(H:Hp)(D:Ends),Inv X pins σ H s->0<s.toks->t D σ H->wpAny (model X.prog X.w) X.A (exec st X.env) (SP X pins D) X.xe s
noncomputable def lH(X:Cx)(st:List Stmt)(t:TS):Prop:=∀(pins:List (Addr×Obj))(s:Shared)(σ:L2.St)(H:Hp)(D:Ends),Inv X pins σ H s->0<s.toks->t D σ H->wpAny (model X.prog X.w) X.A (execs st X.env) (SP X pins D) X.xe s
noncomputable def Ui(X:Cx)(st:Stmt)(t:TS):Prop:=∀(pins:List (Addr×Obj))(s:Shared)(σ:L2.St)(H:Hp)(D:Ends),Inv X pins σ H s->t D σ H->wpAny (model X.prog X.w) X.A (exec st X.env) (λf s'=>SP X pins D f s'/\0<s'.toks) X.xe s
variable{e:Expr}{es:List Expr}{te:TE}{st:Stmt}{rest:List Stmt}{t u:TS}{pos:Pos}
theorem aa6(h:PE X e te):J9 X e te:=λpins s σ H Q I _ q=>h pins s σ H Q I q
theorem DH(h:PS X st t):LC X st t:=λpins s σ H D I _ q=>h pins s σ H D I q
theorem eB(h1:LC X st t)(h2:lH X rest u):lH X (st::rest) (aL t u):=by intro pins s σ H D I a h;refine wpAny_execs_cons (Ny a (h1 pins s σ H {D with nx:=u D} I a h) λf s1 c q=>?_);cases f with|next=>obtain⟨d,H',b,q⟩:=q;exact h2 pins s1 d H' D b c q|ret v=>exact q|brk=>exact q|cont=>exact q
theorem BD(h1:LC X st t):lH X [st] t:=by intro pins s σ H D I a h;refine wpAny_execs_cons (bE (h1 pins s σ H D I a h) λf s1 q=>?_);cases f with|next=>exact wpAny_execs_nil q|ret v=>exact q|brk=>exact q|cont=>exact q
theorem Ei{i:Nat}{x:Str}{pos':Pos}(d:X.N.Nodup)(hi:X.N[i]?=some x)(k:Loc X.env.scope x)(he:J9 X e te)(j:swapsWith e (some (.Name x pos')) pos.line X.env=pure false:=by rfl)(f:X.fn x=true\/X.env.scope.names.lookup x=some .local:=by first|exact .inl rfl|exact .inr rfl|assumption):LC X (.Assign [.Name x pos'] e pos) (MP te (sj i)):=by intro pins s σ H D I g h;refine wpAny_Assign_Name (bE (he pins s σ H _ I g h) λv s1 m=>?_) j;obtain⟨y,a,b,l,q1⟩:=m;exact lB b d hi k l (λs2 c=>⟨_,a,c,q1⟩) f
end
structure Yh(P:Program)(w:World)(K:PySem.W.Frag)(mg:Str->Option Value)(base:Heap)(CX:qm)(k:Nat)(f:Addr)(fd:FuncData)(ps:List Str)(sp:Sp):Prop where
 len:∀vs H Q E,sp vs H Q E->vs.length=ps.length
 run:∀(A:Around)(outer:List Env)(s:Shared)(H:Hp)(args:Args)(us:List Value)(vs:List V)(Q:VK)(E:XK),0<s.toks->cR k A->Ck P w K mg base A outer s H->BindsTo s fd args (ps.zip us)->Vals vs us->sp vs H Q E->codeAny (model P w) A (.call (.ref f) args) (CR CX A.handled outer P w H s Q E) s
noncomputable def xI(P:Program)(w:World)(K:PySem.W.Frag)(mg:Str->Option Value)(CX:qm)(x:Str)(k:Nat)(ps:List Str)(sp:Sp):Prop:=∃f fd,(∀base,Yh P w K mg base CX k f fd ps sp)/\mg x=some (.ref f)/\PySem.W.keepIn K (.ref f)=true/\Binds K fd ps []
theorem lH.JT{X:Cx}{st:List Stmt}{t:TS}(h:lH X.JT st t):lH X st t:=λpins s σ H D I k hw=>wpAny_mono (h pins s σ H D (I.tE _) k hw) (λ_ _ q=>q.iG) λ_ _ z=>False.elim z
theorem Df.V5{P:Program}{w:World}{K:PySem.W.Frag}{mg:Str->Option Value}{CX:qm}{x:Str}{st:Stmt}{N ps:List Str}{k:Nat}{sp:Sp}(D:Df K mg x st ps)(S:aG N ps (ak st))(len:∀vs H Q E,sp vs H Q E->vs.length=ps.length)(h:∀(base:Heap)(f:Addr)(bS:Value)(A:Around)(outer:List Env)(s:Shared)(H:Hp)(vs:List V)(Q:VK)(E:XK),cR k (A.deeper (envOfC x (ak st) s.heap.objs.size f bS))->sp vs H Q E->∃t,lH (dX CX P w K mg base N x (ak st) f bS A outer s H E) (bG st) t/\t {nx:=λ_ H'=>Q .bA H',rt:=Q} (start N vs) H):xI P w K mg CX x (k+1) ps sp:=by
 obtain⟨f,fd,F,m,b⟩:=D;refine⟨f,fd,λbase=>?_,m,F.kp,b⟩;have h:=h base f;obtain⟨oc,od,kV,doc,pm,an,bS,ct,HI,rfl,L,l⟩:=F.ex;refine⟨len,λA outer s H args us vs Q E p hr c hb r j=>?_⟩;have hl:=len _ _ _ _ j;have KX:K.In s.heap:=c.mod.Ez.keeps λb o e=>(c.bs b o e).1;have G:s.heap.NoLimit:=c.mod.nolimit.keeps λb o e=>(c.bs b o e).1;have z:∀y∈ps.zip us,(ak st).names.lookup y.1=some .local\/((ak st).names.lookup y.1=some .cell/\((cellsFrom (s.heap.objs.size+1) (ak st).names []).lookup y.1).isSome=true):=λ⟨n,v⟩B=>by
  rcases S.par n (List.of_mem_zip B).1 with q|q;·exact .inl q
  ·exact .inr ⟨q,PySem.W.cellsFrom_some _ _ _ (.inl q)⟩
 refine codeAny_call_function hr.depth (KX _ _ L) rfl S.co S.gen rfl (PySem.W.codeRec_of KX l) (hb _ _ _ _ ?_);refine Ny p (wpAny_newFunctionEnv_cells S.kind z λenv he s1 d=>(⟨he,d⟩:_/\_)) λenv s1 C M=>?_;obtain⟨he,d⟩:=M;subst he;refine⟨G.keeps d.toInCall.keep,codeAny_func ?_⟩;obtain⟨t,ht,hq⟩:=h bS A outer s H vs Q E (hr.deeper _) j;have I:Inv (dX CX P w K mg base N x (ak st) f bS A outer s H E) [] (start N vs) H s1:=uO S c hl r d;refine wpAny_mono (ht [] s1 (start N vs) H _ I C hq) (λfl s' a=>?_) λe s' a=>a;have fin:∀{g:L2.St}{H':Hp}{v:V}{u:Value},Inv (dX CX P w K mg base N x (ak st) f bS A outer s H E) [] g H' s'->RelV v u->Q v H'->CE outer P w H s Q u s':=λ{g H' v u}J i q=>⟨v,H',J.os,J.bare,J.base,J.bT,i,q⟩;cases fl with|ret u=>obtain⟨v,g,H',J,i,q⟩:=a;exact fin J i q|next=>obtain⟨g,H',J,q⟩:=a;exact fin (v:=V.bA) (u:=Value.none) J rfl q|brk=>obtain⟨_,_,_,q⟩:=a;exact False.elim q|cont=>obtain⟨_,_,_,q⟩:=a;exact False.elim q
theorem Df.okP{P:Program}{w:World}{K:PySem.W.Frag}{mg:Str->Option Value}{x:Str}{st:Stmt}{N ps:List Str}{k:Nat}{sp:Sp}(D:Df K mg x st ps)(S:aG N ps (ak st))(len:∀vs H Q E,sp vs H Q E->vs.length=ps.length)(a:∀(base:Heap)(f:Addr)(bS:Value)(A:Around)(outer:List Env)(s:Shared)(H:Hp)(vs:List V)(Q:VK)(E:XK),cR k (A.deeper (envOfC x (ak st) s.heap.objs.size f bS))->sp vs H Q E->∃t,lH (dX bx P w K mg base N x (ak st) f bS A outer s H E).JT (bG st) t/\t {nx:=λ_ H'=>Q .bA H',rt:=Q} (start N vs) H):xI P w K mg bx x (k+1) ps sp:=D.V5 S len λbase f bS A outer s H vs Q E hr h=>let⟨t,ht,q⟩:=a base f bS A outer s H vs Q E hr h;⟨t,ht.JT,q⟩
theorem Tj{X:Cx}{CX:qm}{x:Str}{k:Nat}{ps:List Str}{sp:Sp}{E:XK}{e:Expr}{es:List Expr}{t:TA}{p d:Pos}(F:xI X.prog X.w X.K X.mg CX x k ps sp)(hr:cR k X.A)(j:Gl X x)(o:Passes CX X E)(ha:PA X (e::es) t)(i:(x==("__debug__":Str))=false:=by decide)(he:starEach (e::es) X.env=(false,eval e X.env)::starEach es X.env:=by rfl)(n:(backTo d (starEach es X.env)).any (·.1)=false:=by rfl)(hc:X.calm=true:=by rfl):J9 X (.Call (.Name x p) (e::es) [] d) (Eo sp [] E t):=by
 obtain⟨f,fd,F,m,kp,b⟩:=F;intro pins s σ H Q I l h;refine wpAny_Call_Name_kw (jK I j m ?_ i);refine PySem.W.callWith_K (h₀:=X.base) I.ok.mod.Ez kp (Ny l (ha d pins s σ H _ I h) λus s1 v⟨vs,c,a,r,q⟩=>⟨a.jl,?_⟩) he n;have q:sp (vs++[]) c Q E:=q;rw[eF]at q;have hl:us.length=ps.length:=by rw[<-r.length];exact(F (Ce s1.heap c (kJ X.stack))).len _ _ _ _ q
 have g:=b s1 us a.jl (by rw[eF];exact hl);rw[eF]at g;refine wpAny_call (codeAny_mono ((F _).run X.A X.stack s1 c ⟨us,[]⟩ us vs Q E v hr (MA a hc) g r q) λr s' hq=>?_);cases r with|error e=>exact o pins σ c s1 e s' a hq|ok fl=>cases fl with|ret u=>exact a.after hq|next=>exact False.elim hq|brk=>exact False.elim hq|cont=>exact False.elim hq
noncomputable def ZF(X:Cx)(es:List Expr)(t:TA):Prop:=∀(a:Pos)(pins:List (Addr×Obj))(s:Shared)(σ:L2.St)(H:Hp)(Q:List V->Hp->Prop),Inv X pins σ H s->t σ H Q->wpAny (model X.prog X.w) X.A (spliced (backTo a (starEach es X.env))) (λus s'=>AP X pins σ Q us s'/\0<s'.toks) X.xe s
theorem lO{X:Cx}{e:Expr}{es:List Expr}{b:TE}{t:TA}(ha:PE X e b)(hr:ZF X es t)(i:starEach (e::es) X.env=(false,eval e X.env)::starEach es X.env:=by rfl):ZF X (e::es) (dv b t):=by intro a pins s σ H Q I h;rw[i];show wpAny _ _ (spliced ((false,eval e X.env)::backTo a (starEach es X.env))) _ _ s;refine Calls.spliced_cons (bE (ha pins s σ H _ I h) λu s1 m=>?_);obtain⟨x,c,f,j,q1⟩:=m;exact bE (hr a pins s1 σ c _ f q1) λus s2⟨⟨xs,d,g,l,q2⟩,k⟩=>⟨⟨x::xs,d,g, .cons j l,q2⟩,k⟩
theorem FX{X:Cx}{x:Str}{j:Nat}{p:Pos}(a:starEach [.Constant (.str x) j p] X.env=[(false,eval (.Constant (.str x) j p) X.env)]:=by rfl):ZF X [.Constant (.str x) j p] (dv (tC (.str x)) nE):=by intro b pins s σ H Q I h;rw[a];show wpAny _ _ (spliced ((false,eval (.Constant (.str x) j p) X.env)::[])) _ _ s;exact Calls.spliced_cons (Calls.Constant_str (Calls.spliced_nil ⟨⟨[.str x],H,I.tok _, .cons ⟨_,rfl⟩ .nil,h⟩,Nat.succ_pos _⟩))
theorem Jn{X:Cx}{CX:qm}{x:Str}{k:Nat}{ps:List Str}{sp:Sp}{E:XK}{e:Expr}{es:List Expr}{t:TA}{p d:Pos}(F:xI X.prog X.w X.K X.mg CX x k ps sp)(hr:cR k X.A)(j:Gl X x)(n:Passes CX X E)(ha:ZF X (e::es) t)(i:(x==("__debug__":Str))=false:=by decide)(he:starEach (e::es) X.env=(false,eval e X.env)::starEach es X.env:=by rfl)(l:(backTo d (starEach es X.env)).any (·.1)=false:=by rfl)(hc:X.calm=true:=by rfl):PE X (.Call (.Name x p) (e::es) [] d) (Eo sp [] E t):=by
 obtain⟨f,fd,F,m,kp,b⟩:=F;intro pins s σ H Q I h;refine wpAny_Call_Name_kw (jK I j m ?_ i);refine PySem.W.callWith_K (h₀:=X.base) I.ok.mod.Ez kp (bE (ha d pins s σ H _ I h) λus s1⟨⟨vs,c,a,r,q⟩,o⟩=>⟨a.jl,?_⟩) he l;have q:sp (vs++[]) c Q E:=q;rw[eF]at q;have hl:us.length=ps.length:=by rw[<-r.length];exact(F (Ce s1.heap c (kJ X.stack))).len _ _ _ _ q
 have g:=b s1 us a.jl (by rw[eF];exact hl);rw[eF]at g;refine wpAny_call (codeAny_mono ((F _).run X.A X.stack s1 c ⟨us,[]⟩ us vs Q E o hr (MA a hc) g r q) λr s' hq=>?_);cases r with|error e=>exact n pins σ c s1 e s' a hq|ok fl=>cases fl with|ret u=>exact a.after hq|next=>exact False.elim hq|brk=>exact False.elim hq|cont=>exact False.elim hq
theorem vb{X:Cx}:gm X (.type "str") (λxs H Q=>∃i:Int,xs=[.int i]/\i.natAbs.log2<1920/\Q (.str (Str.ofString (toString i))) H):=by intro pins s σ H xs us Q I r h;obtain⟨i,rfl,hi,q⟩:=h;obtain⟨u,rfl,t,rfl⟩:=vals1 r;exact PySem.P.str_of_int hi ⟨.str _,H,I.tok _,⟨_,rfl⟩,q⟩
theorem nH{X:Cx}:gm X (.type "int") (λxs H Q=>∃(z:Str)(n:Int),xs=[.str z]/\PySem.intText? z=some n/\z.length<=640/\Q (.int n) H):=by intro pins s σ H xs us Q I r h;obtain⟨z,n,rfl,hn,hl,q⟩:=h;obtain⟨u,rfl,t,rfl⟩:=vals1 r;exact PySem.W.KIN.call_text hn hl ⟨.int n,H,I.tok _,⟨_,rfl⟩,q⟩
section
variable{X:Cx}
noncomputable def V4(y z:Str)(to:TE):TE:=λσ H Q=>to σ H λx b=>∃a:Str,x= .str a/\a.length+(a.length+1)*z.length<=16777216/\Q (.str (Txt.replace a y z)) b
theorem qX{o:Expr}{apos dA e f:Pos}{c d:Nat}{y z:Str}{to:TE}(ho:J9 X o to)(j:(y==z)=false)(m:M2 X o "replace" apos (.Constant (.str y) c e) (.Constant (.str z) d f) dA):J9 X (.Call (.Attribute o "replace" apos) [.Constant (.str y) c e, .Constant (.str z) d f] [] dA) (V4 y z to):=by intro pins s σ H Q I a h;refine wpAny_Call_method m.base m.LL m.line PySem.F.plainAttrs_str PySem.F.slot_str_replace PySem.F.type_str_replace (Ny a (ho pins s σ H _ I a h) λu s1 l v=>?_);obtain⟨x,g,i,p,r,ex,hb,q1⟩:=v;subst ex;obtain⟨t,rfl⟩:=(show∃t,u=Value.str r t from p);refine⟨typeIs_str _ _ _,(λb q=>nomatch q),?_⟩;rw[m.trees];refine Calls.callWith_builtin rfl (Calls.evalArgs_plain (Calls.spliced_cons (Calls.Constant_str (Calls.spliced_cons (Calls.Constant_str (Calls.spliced_nil ?_))))));have n:s1.toks≠0:=Nat.pos_iff_ne_zero.mp l;refine SC.replace n (Nat.succ_ne_zero _) (zQ18 (Nat.lt_succ_self _)) j hb λt' k=>⟨.str _,g,?_,⟨_,rfl⟩,q1⟩;exact(i.tok _).tok _
noncomputable def QB:V->List V->Hp->VK->Prop:=λx vs H Q=>∃(z:Str)(c:Nat),x= .str z/\vs=[.str ⟨#[c]⟩]/\c<256/\z.length<sizeLine/\∀p,H p=none->Q (.ref p) (upd H p (.lst ((eh c z.cps.toList).map λw:List Nat=>V.str ⟨w.toArray⟩)))
theorem qO(c:Nat):∀l:List Nat,(eh c l).length<=l.length+1|[]=>by simp[eh]|a::l=>by have b:=qO c l;obtain⟨w,ws,e⟩:=ny c l;rw[eh,e];rw[e]at b;split<;>simp only[b_]at b⊢<;>lia
theorem vv:∀(ws:List Str)(n:Nat),Vals (ws.map V.str) (strsFrom n ws)|[],_=> .nil|w::ws,n=> .cons ⟨n,rfl⟩ (vv ws (n+1))
theorem KN{c:Nat}(h:c<256)(z:Str):decide (Builtin.Str.strKind z<Builtin.Str.strKind ⟨#[c]⟩)=false:=by
 have e:Builtin.Str.strKind ⟨#[c]⟩=1:=by unfold Builtin.Str.strKind;rw[if_pos (by simp[h])]
 rw[e];refine decide_eq_false ?_;unfold Builtin.Str.strKind;repeat' split
 all_goals lia
theorem Lp:Tv X "str.split" QB:=by
 intro pins s σ H x vs v us Q I n m h;obtain⟨z,c,rfl,rfl,hc,o,q⟩:=h;obtain⟨u,rfl,l⟩:=m.one;obtain⟨t,rfl⟩:=(show∃t,v=Value.str z t from n);obtain⟨b,rfl⟩:=(show∃t,u=Value.str ⟨#[c]⟩ t from l);have hl:z.length=z.cps.toList.length:=by simp[Str.length]
 have whole:eh c z.cps.toList=[z.cps.toList]->EP X pins σ Q (.ref s.heap.objs.size) {s with heap:=s.heap.push {cls:= .type "list",data:= .seq [Value.str z t].toArray}}:=λe=>by rw[e]at q;exact⟨.ref s.heap.objs.size,_,I.IV (t':=s.toks) (its:=[Value.str z t]) (ys:=[V.str ⟨z.cps.toList.toArray⟩]) (.cons ⟨t,by simp⟩ .nil) (gu rfl),rfl,q _ I.fresh⟩
 have k:=KN hc z;by_cases d:z.length<1;·have j:z.cps.toList=[]:=List.length_eq_zero_iff.mp (by lia);refine call_meets F.slot_str_split (typeIs_str _ _ _) F.entry_str_split (F.args_str_split_2 _ _) (meets_str_split_cannot_occur z ⟨#[c]⟩ t b (by rw[show(⟨#[c]⟩:Str).length=1 from rfl,decide_eq_true d];rfl)) ?_;exact whole (by rw[j];rfl)
 have f:(decide (z.length<(⟨#[c]⟩:Str).length)||decide (Builtin.Str.strKind z<Builtin.Str.strKind ⟨#[c]⟩))=false:=by rw[k,Bool.or_false,show(⟨#[c]⟩:Str).length=1 from rfl,decide_eq_false d]
 have i:((⟨#[c]⟩:Str).length==0)=false:=rfl;cases a:(Builtin.Str.occurrences z ⟨#[c]⟩ 0 z.length (z.length+1)).isEmpty with
  |true=>refine call_meets F.slot_str_split (typeIs_str _ _ _) F.entry_str_split (F.args_str_split_2 _ _) (meets_str_split_not_found z ⟨#[c]⟩ t b f i a) ?_;rw[qv]at a;exact whole (jL (AB (.inl (List.isEmpty_iff.mp a))))
  |false=>
   have g:=u4 z c;have hlen:(Builtin.Str.partsBetween z (Builtin.Str.occurrences z ⟨#[c]⟩ 0 z.length (z.length+1)) 1).length<=sizeLine:=by rw[g,bD];have :=qO c z.cps.toList;lia
   refine call_meets F.slot_str_split (typeIs_str _ _ _) F.entry_str_split (F.args_str_split_2 _ _) (meets_str_split_sep z ⟨#[c]⟩ t b f i a (by lia) hlen) ?_;rw[show(⟨#[c]⟩:Str).length=1 from rfl,g];have hv:=vv ((eh c z.cps.toList).map λw:List Nat=>(⟨w.toArray⟩:Str)) s.toks;rw[List.map_map]at hv;exact⟨.ref s.heap.objs.size,_,I.IV (ys:=(eh c z.cps.toList).map λw:List Nat=>V.str ⟨w.toArray⟩) hv (by rw[bD];have :=qO c z.cps.toList;lia),rfl,q _ I.fresh⟩
end
end L3
end
section
namespace K57
open PySem L2 L3 KM PyProof.Rows
seal L2.PE L2.PS L2.kM L2.PT L2.PW L2.PA L2.PG L2.BA L2.PI L2.PC L2.PO L2.G0 L2.PK L3.Bc L3.J9 L3.LC L3.lH L3.Ui
variable{P:Program}{w:World}{K:PySem.W.Frag}{mg:Str->Option Value}{base:Heap}{t:Aq}
noncomputable def tx(l:List Nat):Str:=⟨l.toArray⟩
theorem Wq(z:Str):tx z.cps.toList=z:=by cases z;rfl
theorem JW(l:List Nat):(tx l).length=l.length:=rfl
theorem str_len(z:Str):z.length=z.cps.toList.length:=by simp[Str.length]
def FK:Sp:=λvs H Q _=>∃z:Str,vs=[.str z]/\z.length<=100000/\∀(p:Addr)(H':Hp),H p=none->aE H H'->H' p=some (.lst ((cP z.cps.toList).map λw=>V.str (tx w)))->Q (.ref p) H'
theorem sT{c:Nat}{z:List Nat}(b:z.length<=3)(h1:1<=z.length):∀l:List Nat,(gd c z l).length<=3*l.length
 |[]=>by simp[gd]
 |a::l=>by
  have d:=sT (c:=c) b h1 l;unfold gd at d⊢;rw[List.flatMap_cons,cS,b_];have :(if a=c then z else[a]).length<=3:=by
   split;·exact b
   ·simp
  omega
theorem oE:aG ["text","spaced"] ["text"] (ak gb):=⟨rfl,rfl,rfl,by decide+kernel,rfl,by decide+kernel,by decide+kernel⟩
theorem C2(D:Df K mg "words_of" gb ["text"])(M:Mg mg t):xI P w K mg bx "words_of" 2 ["text"] FK:=by
 refine D.okP oE (λvs H Q E h=>?_) (λbase f bS A outer s H vs Q E hr h=>?_);·obtain⟨z,rfl,_⟩:=h;rfl
 obtain⟨z,rfl,Z,q⟩:=h;have hl:=str_len z;refine⟨_,(eB (Ei (i:=1) oE.nd rfl (cj rfl) (qX (qX (qX (aa6 (pv 0)) (by decide+kernel) ⟨rfl,rfl,rfl,rfl⟩) (by decide+kernel) ⟨rfl,rfl,rfl,rfl⟩) (by decide+kernel) ⟨rfl,rfl,rfl,rfl⟩)) (BD (DH (aA (eO (N':=["word"]) (own:=1) (fr:=[]) rfl (fY (N:=["text","spaced"]) (sc:=ak gb) rfl rfl rfl (by decide+kernel)) (iC (gg PySem.F.plainAttrs_str PySem.F.slot_str_split PySem.F.type_str_split Lp (pv 1) (aa aq af))) (cU (by decide)) (λ_ _ _=>(bb (i:=0) (show List.Nodup (["word"]:List Str)by decide+kernel) rfl (Or.inl rfl))) (λ_ _ _=>(ye (aw PZ (pv 0) aq (az _)))) (λ_ _ _=>(pv 0))))))),?_⟩;try dsimp only[iF,Y]
 refine vX ?_;intro _ _;have I:Str.ofString "("=⟨#[40]⟩:=by decide+kernel
 have J:Str.ofString ")"=⟨#[41]⟩:=by decide+kernel
 have L:Str.ofString "\n"=⟨#[10]⟩:=by decide+kernel
 have x:Str.ofString " "=⟨#[32]⟩:=by decide+kernel
 have R:(Str.ofString " ( ").length=3:=by decide+kernel
 have S:(Str.ofString " ) ").length=3:=by decide+kernel
 have F:(Str.ofString " ( ").cps.toList=[32,40,32]:=by decide+kernel
 have G:(Str.ofString " ) ").cps.toList=[32,41,32]:=by decide+kernel
 have n:=replace_one z (Str.ofString " ( ") 40;have u:=replace_one (Txt.replace z "(" " ( ") (Str.ofString " ) ") 41;have o:=replace_one (Txt.replace (Txt.replace z "(" " ( ") ")" " ) ") (Str.ofString " ") 10;rw[<-I,F]at n;rw[<-J,G,n]at u;rw[<-L,u,show(Str.ofString " ").cps.toList=[32]by rw[x],Wa]at o;have B:(Txt.replace z "(" " ( ").length<=3*z.length:=by rw[str_len,n,hl];exact sT (by decide) (by decide) _
 have X:(Txt.replace (Txt.replace z "(" " ( ") ")" " ) ").length<=3*(3*z.length):=by
  have :=sT (c:=41) (z:=[32,41,32]) (by decide) (by decide) (gd 40 [32,40,32] z.cps.toList);rw[str_len,u];have h2:(gd 40 [32,40,32] z.cps.toList).length<=3*z.length:=by rw[<-n,<-str_len];exact B
  omega
 have C:(Txt.replace (Txt.replace (Txt.replace z "(" " ( ") ")" " ) ") "\n" " ").length<=3*z.length:=by
  rw[str_len,o,hl];have :∀l:List Nat,(l.flatMap sg).length<=3*l.length:=λl=>by
   induction l with
    |nil=>simp
    |cons a l ih=>
     rw[List.flatMap_cons,cS,b_];have :(sg a).length<=3:=by
      unfold sg;repeat' split
      all_goals simp
     omega
  exact this _
 have U:(Str.ofString " ").length=1:=by decide+kernel
 refine⟨_,rfl,z,rfl,(by rw[R];omega),_,rfl,(by rw[S];omega),_,rfl,(by rw[U];omega),?_⟩;generalize Txt.replace (Txt.replace (Txt.replace z "(" " ( ") ")" " ) ") "\n" " "=T at o C⊢;have hT:=str_len T;refine⟨_,rfl,rfl,T,32,rfl,(by rw[x]),(by decide),(by rw[sizeLine_eq];omega),λm O=>⟨m,rfl,⟨_,aZ.of ah⟩,λp j=>?_⟩⟩;have v:=ao O (.lst ((eh 32 T.cps.toList).map λw:List Nat=>V.str ⟨w.toArray⟩));have g:(upd H m (.lst ((eh 32 T.cps.toList).map λw:List Nat=>V.str ⟨w.toArray⟩))) m=some (.lst ((eh 32 T.cps.toList).map λw:List Nat=>V.str (tx w))):=ah;generalize upd H m (.lst ((eh 32 T.cps.toList).map λw:List Nat=>V.str ⟨w.toArray⟩))=y at v g j⊢;have hlen:=qO 32 T.cps.toList;refine JU (eh 32 T.cps.toList).length (λi d b=>d=(((eh 32 T.cps.toList).take i).filter λw=>!w.isEmpty).map (λw=>V.str (tx w))/\b p=some (.lst d)/\aE y b) ⟨by simp,ah,ao j _⟩ ?_ ?_
 ·rintro i d b hi⟨rfl,h2,s2⟩;have hw:((eh 32 T.cps.toList).map λw:List Nat=>V.str (tx w))[i]?=some (.str (tx (eh 32 T.cps.toList)[i])):=by simp[hi]
  refine⟨⟨_,_,aZ.of (s2 _ _ g),hw⟩,?_⟩;rintro x' W⟨rfl,k⟩;have k:=k _ (aZ.of (s2 _ _ g));rw[hw]at k;cases k;have hlt:((((eh 32 T.cps.toList).take i).filter λw=>!w.isEmpty).map (λw=>V.str (tx w))).length<sizeLine:=by rw[bD,sizeLine_eq];have :=List.length_filter_le (λw:List Nat=>!w.isEmpty) ((eh 32 T.cps.toList).take i);rw[jx]at this;omega
  have tk:(eh 32 T.cps.toList).take (i+1)=(eh 32 T.cps.toList).take i++[(eh 32 T.cps.toList)[i]]:=by rw[List.take_add_one,zQ03 hi];rfl
  refine⟨_,rfl,rfl,_,rfl,?_⟩;refine bL (λc=>?_) (λc=>?_)
  ·refine⟨_,rfl,h2,hlt,nx hi ⟨?_,ah,lR s2 j⟩⟩;have ne:(eh 32 T.cps.toList)[i].isEmpty=false:=by cases e:(eh 32 T.cps.toList)[i]with|cons a r=>rfl|nil=>rw[e]at c;exact absurd c (by decide+kernel)
   rw[tk,List.filter_append,eW];simp[ne]
  ·refine nx hi ⟨?_,h2,s2⟩;have ne:(eh 32 T.cps.toList)[i].isEmpty=true:=by cases e:(eh 32 T.cps.toList)[i]with|nil=>rfl|cons a r=>refine absurd ?_ c;rw[e];refine(Bool.not_eq_eq_eq_not ..).mpr (decide_eq_false λz=>?_);injection z with z;have :=congrArg Str.length z;exact absurd this (by rw[JW];simp[show(Str.ofString "").length=0 by decide+kernel])
   rw[tk,List.filter_append,eW];simp[ne]
 ·rintro d b⟨rfl,h2,s2⟩;refine⟨⟨_,aZ.of (s2 _ _ g),by rw[bD];exact zQ04 _⟩,?_⟩;rw[List.take_length]at h2;refine q p b (v.free j) (v.trans s2) ?_;rw[h2,cP,o]
end K57
end
section
namespace K57
open PySem L2 L3 KM
seal L2.PE L2.PS L2.kM L2.PT L2.PW L2.PA L2.PG L2.BA L2.PI L2.PC L2.PO L2.G0 L2.PK L3.Bc
variable{P:Program}{w:World}{K:PySem.W.Frag}{mg:Str->Option Value}{base:Heap}{t:Aq}
noncomputable def ba:List (Str×List V):=[("nat",[]),("none",[]),("all",[.str "kind", .str "kind"]),("some",[.str "kind", .str "kind"]),("same",[.str "kind", .str "term", .str "term"]),("var",[]),("fun",[.str "kind", .str "term"]),("app",[.str "term", .str "term"]),("zero",[]),("next",[.str "term"]),("rec",[.str "kind", .str "term", .str "term", .str "term"]),("like",[.str "kind", .str "term"]),("carry",[.str "kind", .str "term", .str "term"]),("never",[.str "kind", .str "term"]),("pair",[.str "kind", .str "term", .str "term"]),("first",[.str "term"]),("second",[.str "term"]),("name",[])]
noncomputable def VR(c:Nat):V:=if c=107 then .str "kind"else .str "term"
noncomputable def O8(r:Str×List V):Bool:=match cO r.1 with| .str s=>decide (s.cps.size<=4)&&if r.1="var"then decide (s="n")else if r.1="name"then decide (s="w")else s.cps.toList.all (λc=>c==107||c==116)&&decide (r.2=s.cps.toList.map VR)|_=>false
theorem Nc:ba.all O8=true:=by decide+kernel
theorem lookup_mem{a:Type}{x:Str}{v:a}:∀{l:List (Str×a)},l.lookup x=some v->(x,v)∈l
 |[],h=>by simp at h
 |(k,u)::l,h=>by
  rw[jk]at h;cases e:x==k with
   |true=>
    rw[e]at h;obtain rfl:x=k:=by simpa using e
    cases h;exact bI
   |false=>rw[e]at h;exact ck _ (lookup_mem h)
theorem lookup_none{a:Type}{x:Str}:∀{l:List (Str×a)},l.lookup x=none->x∉l.map (·.1)
 |[],_=>by simp
 |(k,u)::l,h=>by
  rw[jk]at h;cases e:x==k with
   |true=>rw[e]at h;cases h
   |false=>
    rw[e]at h;have :=lookup_none h;have e:¬x=k:=by simpa using e
    simp only[cD,zQ29,not_or];exact⟨e,this⟩
inductive Shp(w:Str):Prop where|bA(h1:ba.lookup w=none)(h2:cO w= .bA)|var(h1:ba.lookup w=some [])(h2:w="var")|name(h1:ba.lookup w=some [])(h2:w="name")|UR(s:Str)(h1:ba.lookup w=some (s.cps.toList.map VR))(h2:cO w= .str s)(h3:w≠"var")(h4:w≠"name")(h5:∀c∈s.cps.toList,c=107\/c=116)(h6:s.cps.size<=4)
theorem L7{tab:List (Key×V)}{w:Str}(h:∀k∈tab.map (·.1),k≠Sum.inr w):fC tab (Sum.inr w:Key)=none:=by cases e:fC tab (Sum.inr w:Key)with|none=>rfl|some v=>exact absurd rfl (h _ (MZ e))
noncomputable def Ql(k:Key)(l:List Str):Bool:=match k with| .inr x=>decide (x∈l)| .inl _=>true
theorem T8(w:Str):Shp w:=by
 cases h:ba.lookup w with
  |none=>
   refine .bA h ?_;have nm:=lookup_none h;have sub:∀tab:List (Key×V),(tab.map (·.1)).all (λk=>Ql k (ba.map (·.1)))=true->fC tab (Sum.inr w:Key)=none:=λtab ht=>L7 λk j z=>by subst z;have :=List.all_eq_true.mp ht _ j;simp only[Ql,decide_eq_true_eq]at this;exact nm this
   have a:=sub Wh (by decide+kernel);have b:=sub Vd (by decide+kernel);have c:=sub W_ (by decide+kernel);unfold cO;rw[a,b,c];rfl
  |some ds=>
   have m:=lookup_mem h;have g:=List.all_eq_true.mp Nc _ m;unfold O8 at g;by_cases hv:w="var";·subst hv;exact .var (by decide+kernel) rfl
   ·by_cases hn:w="name";·subst hn;exact .name (by decide+kernel) rfl
    ·cases e:cO w with|str s=>rw[e]at g;simp only[hv,hn,if_false,bF,List.all_eq_true,Bool.or_eq_true,beq_iff_eq,decide_eq_true_eq]at g;obtain⟨d,f,i⟩:=g;exact .UR s (by rw[h,i]) e hv hn f d|_=>rw[e]at g;simp at g
noncomputable def gG(x:Str):Bool:=decide (x="var")||decide (x="name")
noncomputable def av(x:Str)(ps:List D):List D:=if gG x=true then[]else ps
def fR:Sp:=λvs H Q _=>∃(x:Str)(ps:List D)(v:V),vs=[v]/\Rep H (.tup (.str x::ps)) v/\ps.length<=10/\∀(a:Addr)(us:List V)(H':Hp),H a=none->aE H H'->H' a=some (.lst us)->bK H' (av x ps) us->Q (.ref a) H'
theorem Ds:aG ["thing"] ["thing"] (ak jF):=⟨rfl,rfl,rfl,by decide+kernel,rfl,by decide+kernel,by decide+kernel⟩
theorem GD(D:Df K mg "kids_of" jF ["thing"])(M:Mg mg t):bu P w K mg bx "kids_of" (1) ["thing"] fR:=by
 refine D.ok Ds (λvs H Q E h=>?_) (λbase f bS A outer s H vs Q E hr h=>?_);·obtain⟨x,ps,v,rfl,_⟩:=h;rfl
 obtain⟨x,ps,v,rfl,r,hl,q⟩:=h;obtain⟨a,us,rfl,ha,u,us,rfl,⟨rfl,o⟩,i⟩:=r;have n:=i.length;have e:lJ (V.str x::us) 0=some (.str x):=aR (j:=0) rfl;have hT:cu K H a (.str x::us):=cu.of ha;refine⟨_,(ag (aT (L2.PW.pt (fE (aw aY (aX bB (pv 0) aj (λ_ _=>rfl)) aq (az _)) (fB (aw aY (aX bB (pv 0) aj (λ_ _=>rfl)) aq (az _))))) (ai (aA (bX af))) aC) (ai (aA (bY iI rfl M.CU zZ (aa (eX qq (pv 0) (eT aj) fK) af))))),?_⟩;try dsimp only[iF,m]
 refine vX ?_;intro _ _;have leaf:gG x=true->0<=sizeLine/\∀p,H p=none->Q (.ref p) (upd H p (.lst [])):=λc=>⟨zQ25 _,λp b=>q p [] _ b (ao b _) ah (by unfold av;rw[if_pos c];exact rfl)⟩;refine⟨_,rfl,a,_,_,_,rfl,rfl,hT,e,rfl,_,rfl,?_⟩;refine bL (λc=>?_) (λc=>?_);·refine bj ?_;have c:V.str x=V.str "var":=of_decide_eq_true c;cases c;exact leaf rfl
 refine⟨_,rfl,a,_,_,_,rfl,rfl,hT,e,rfl,_,rfl,?_⟩;refine bL (λd=>?_) (λd=>?_);·have d:V.str x=V.str "name":=of_decide_eq_true d;cases d;exact leaf (by decide+kernel)
 have nl:gG x=false:=by unfold gG;have h1:x≠"var":=λz=>c (by rw[z];decide+kernel);have h2:x≠"name":=λz=>d (by rw[z];decide+kernel);simp[h1,h2]
 have k:av x ps=ps:=by unfold av;rw[nl];rfl
 rw[k]at q;have g:iA (V.str x::us) (some 1) none=us:=by have :=gY (V.str x::us) 1;simpa using this
 refine⟨_,rfl,_,rfl,a,_,rfl,hT,λp b=>?_,λz=>?_⟩;·rw[g];refine⟨p,us,rfl, .inr (cu.of ah),λl hl=>?_⟩;exact q l us _ ((ao b _).free hl) ((ao b _).trans (ao hl _)) ah (i.mono ((ao b _).trans (ao hl _)))
 ·rw[g]at z;exact absurd (congrArg List.length z) (by simp)
theorem kR{nm:D->Bool}:∀{cs:List Nat}{ps:List D},mV nm cs ps=true->cs.length=ps.length|[],[],_=>rfl|[],_::_,h=>by simp[mV]at h|_::_,[],h=>by simp[mV]at h|c::cs,p::ps,h=>by rw[bM,bF]at h;rw[b_,b_,kR h.2]
noncomputable def Uc(c:Nat):Bool:=!(Builtin.Str.occurrences (Str.ofString "kt") ⟨#[c]⟩ 0 (Str.ofString "kt").length 1).isEmpty
theorem kt1:Uc 107=true:=by decide+kernel
theorem kt2:Uc 116=true:=by decide+kernel
theorem kt3:Uc 110=false:=by decide+kernel
theorem kt4:Uc 119=false:=by decide+kernel
theorem bw{nm:D->Bool}{k:Bool}{x:Str}{ps:List D}(h:dC nm k (.tup (.str x::ps))=true):∃s,cO x= .str s/\dE x=k/\mV nm s.cps.toList ps=true/\s.cps.size<=4/\s.cps.toList.length=ps.length/\(∀c∈s.cps.toList,Uc c=!gG x)/\(gG x=false->∀c∈s.cps.toList,c=107\/c=116)/\∃r,ba.lookup x=some r/\r.length=(av x ps).length:=by
 have d:∀s,cO x= .str s->dE x=k/\mV nm s.cps.toList ps=true:=λs e=>by rw[dC,e,bF]at h;exact⟨by simpa using h.1,h.2⟩
 cases T8 x with
  |bA h1 h2=>rw[dC,h2]at h;simp at h
  |var h1 h2=>subst h2;obtain⟨b,a⟩:=d _ eJ;refine⟨_,eJ,b,a,by decide,kR a,λc hc=>?_,λz=>absurd z (by decide+kernel),_,h1,by unfold av;rw[if_pos (by decide+kernel)];rfl⟩;rw[vh]at hc;rw[List.mem_singleton.mp hc,kt3];decide+kernel
  |name h1 h2=>subst h2;obtain⟨b,a⟩:=d _ ku;refine⟨_,ku,b,a,by decide,kR a,λc hc=>?_,λz=>absurd z (by decide+kernel),_,h1,by unfold av;rw[if_pos (by decide+kernel)];rfl⟩;rw[PY]at hc;rw[List.mem_singleton.mp hc,kt4];decide+kernel
  |UR s h1 h2 h3 h4 h5 h6=>
   obtain⟨b,a⟩:=d s h2;have nl:gG x=false:=by unfold gG;simp[h3,h4]
   refine⟨s,h2,b,a,h6,kR a,λc hc=>?_,λ_=>h5,_,h1,?_⟩
   ·rw[nl];rcases h5 c hc with z|z<;>rw[z];·exact kt1
    ·exact kt2
   ·unfold av;rw[nl,bD,kR a];rfl
end K57
end
section
namespace K57
open PySem L2 L3 KM PyProof.Rows
seal L2.PE L2.PS L2.kM L2.PT L2.PW L2.PA L2.PG L2.BA L2.PI L2.PC L2.PO L2.G0 L2.PK L3.Bc
variable{P:Program}{w:World}{K:PySem.W.Frag}{mg:Str->Option Value}{base:Heap}{t:Aq}
noncomputable def BO:List (Str×V):=[("all", .int 1),("some", .int 1),("fun", .int 1),("rec", .int 0),("carry", .int 0)]
noncomputable def dw(x:Str):V:=(KTD.datumAt x BO).getD .bA
noncomputable def jZ(x:Str)(i:Nat):V:=if decide (V.int i=dw x)=true then .int 1 else .int 0
noncomputable def kh(x:Str)(n:Nat):List V:=(List.range n).map (jZ x)
def md:Sp:=λvs H Q _=>∃(x:Str)(ps:List D)(v:V)(k:Bool),vs=[v]/\Rep H (.tup (.str x::ps)) v/\dC aS k (.tup (.str x::ps))=true/\∀(a:Addr)(H':Hp),aE H H'->H' a=some (.lst (kh x (av x ps).length))->Q (.ref a) H'
theorem GA(x:Str)(i:Int):Te (.int i) (dw x)=true:=by
 unfold dw;cases e:KTD.datumAt x BO with
  |none=>rfl
  |some v=>
   have :v= .int 1\/v= .int 0:=by
    simp only[KTD.datumAt,BO]at e;repeat' split at e
    all_goals first|(cases e;exact .inl rfl)|(cases e;exact .inr rfl)|cases e
   rcases this with z|z<;>rw[z]<;>rfl
theorem oV:aG ["thing","over"] ["thing"] (ak f_):=⟨rfl,rfl,rfl,by decide+kernel,rfl,by decide+kernel,by decide+kernel⟩
theorem C8(D:Df K mg "binds_of" f_ ["thing"])(M:Mg mg t){as:List Addr}(T:KD K t.jc ba as)(B:ic K t.de BO):bu P w K mg bx "binds_of" (1) ["thing"] md:=by
 refine D.ok oV (λvs H Q E h=>?_) (λbase f bS A outer s H vs Q E hr h=>?_);·obtain⟨x,ps,v,k,rfl,_⟩:=h;rfl
 obtain⟨x,ps,v,k,rfl,r,wf,q⟩:=h;obtain⟨a,us,rfl,ha,X,us,rfl,⟨rfl,W⟩,G⟩:=r;have O:=G.length;have m:lJ (V.str x::us) 0=some (.str x):=aR (j:=0) rfl;have hT:cu K H a (.str x::us):=cu.of ha;obtain⟨sh,S,J,U,h4,hlen,L,_,d,F,o⟩:=bw wf;obtain⟨b,y,z⟩:=T.some F;have hn:(av x ps).length<=4:=by
  unfold av;split;·exact zQ25 _
  ·rw[<-hlen];simpa using h4
 refine⟨_,(ag (aI (i:=1) oV.nd rfl (cj rfl) (Ju (gD M.g_BINDER_OVER rfl) (aX bB (pv 0) aj (λ_ _=>rfl)) ⟨rfl,rfl,rfl,rfl⟩)) (ai (aA (eO (N':=["number","over"]) (own:=1) (fr:=[1]) rfl (fY (N:=["thing","over"]) (sc:=ak f_) rfl rfl rfl (by decide+kernel)) (dP rfl M.fO (aa (aJ aM rfl M.cH bO (aa (J1 (gD M.g_KIDS_DUE rfl) (aX bB (pv 0) aj (λ_ _=>rfl)) (λ_ _=>rfl)) af)) af)) (cU (by decide)) (λ_ _ _=>(bb (i:=0) (show List.Nodup (["number","over"]:List Str)by decide+kernel) rfl (Or.inl rfl))) (λ_ _ _=>gH) (λ_ _ _=>(jC (aw aY (pv 0) (pv 1) (az _)) aj aj)))))),?_⟩;try dsimp only[iF,I]
 refine vX ?_;intro _ _;refine⟨_,_,rfl,B,_,rfl,a,_,_,_,rfl,rfl,hT,m,x,rfl,?_⟩;refine⟨_,rfl,a,_,_,_,rfl,rfl,hT,m,_,_,x,_,rfl,rfl,T.tab,y,b,_,rfl, .inr (z H),_,rfl,(by show-(2^62)<=((d.length:Nat):Int);omega),(by show((d.length:Nat):Int)<2^62;omega),λp C=>eG d.length (jZ x) C (by rw[o];exact cw hn (by decide)) (λi g hi s2=>⟨hi,?_⟩) λg s2 h2=>⟨zQ04 _,?_⟩⟩
 ·rintro Y l⟨rfl,rfl⟩R n;have u:(0:Int)+(i:Int)=((i:Nat):Int):=by omega
  rw[u];refine⟨_,rfl,_,rfl,GA x i,_,rfl,?_⟩;refine bL (λc=>?_) (λc=>?_)
  ·have e:jZ x i= .int 1:=by unfold jZ;exact if_pos c
   have :=n l (aE.refl _);rw[e]at this;exact this
  ·have e:jZ x i= .int 0:=by unfold jZ;exact if_neg c
   have :=n l (aE.refl _);rw[e]at this;exact this
 ·rw[o]at h2;exact q p g s2 h2
theorem lL(x:Str):∀ws:List Str,O7 (.str x) (ws.map V.str)=decide (x∈ws)
 |[]=>rfl
 |y::ws=>by
  have a:=lL x ws;unfold O7 at a⊢;rw[cD,List.any_cons,a];show(y==x||decide (x∈ws))=decide (x∈y::ws);by_cases e:y=x;·subst e;simp
  ·have b:¬x=y:=λz=>e z.symm;simp[e,b]
theorem vo:∀ws:List Str,(ws.map V.str).all mr=true|[]=>rfl|y::ws=>by rw[cD,List.all_cons,vo ws];rfl
theorem uP:∀{ps:List D}{i:Nat}{p:D},ps[i]?=some p->depth p<=aF ps|[],_,_,e=>by simp at e|p::ps,0,_,e=>by simp at e;subst e;simp only[aF];omega|_::ps,i+1,p,e=>by have :=uP (ps:=ps) (i:=i) (by simpa using e);simp only[aF];omega
mutual noncomputable def plc:D->List (List Nat)| .tup (.str x::ps)=>[]::(if gG x=true then[]else VH 0 ps)|_=>[]noncomputable def VH:Nat->List D->List (List Nat)|_,[]=>[]|i,d::ds=>(plc d).map (i::·)++VH (i+1) ds end
theorem GZ{b d:Type}(g:b->d)(z:b)(l:List b):(List.range l.length).map (λj=>g ((l[j]?).getD z))=l.map g:=by induction l with|nil=>rfl|cons a l c=>rw[b_,List.range_succ_eq_map,cD,List.map_map,cD,<-c];rfl
theorem eN{nm:D->Bool}{k:Bool}:∀{d:D},dC nm k d=true->∃x ps,d= .tup (.str x::ps)| .tup (.str x::ps),_=>⟨x,ps,rfl⟩| .tup [],h=>by simp[dC]at h| .tup (.bA::_),h=>by simp[dC]at h| .tup (.bl _::_),h=>by simp[dC]at h| .tup (.int _::_),h=>by simp[dC]at h| .tup (.tup _::_),h=>by simp[dC]at h| .bA,h=>by simp[dC]at h| .bl _,h=>by simp[dC]at h| .int _,h=>by simp[dC]at h| .str _,h=>by simp[dC]at h
theorem EJ{nm:D->Bool}:∀{cs:List Nat}{ps:List D}{i:Nat}{p:D},mV nm cs ps=true->(∀c∈cs,c=107\/c=116)->ps[i]?=some p->∃k,dC nm k p=true
 |[],[],_,_,_,_,e=>by simp at e
 |[],_::_,_,_,h,_,_=>by simp[mV]at h
 |_::_,[],_,_,h,_,_=>by simp[mV]at h
 |c::cs,q::ps,0,p,h,hc,e=>by
  simp at e;subst e;rw[bM,bF]at h;have h1:=h.1;unfold iX at h1;rcases hc c bI with z|z;·rw[z,if_pos rfl]at h1;exact⟨true,h1⟩
  ·rw[z,if_neg (by decide),if_pos rfl]at h1;exact⟨false,h1⟩
 |c::cs,q::ps,i+1,p,h,hc,e=>by rw[bM,bF]at h;exact EJ (i:=i) h.2 (λc a=>hc c (ck _ a)) (by simpa using e)
theorem dy{k:Bool}{x:Str}{ps:List D}{i:Nat}{p:D}(h:dC aS k (.tup (.str x::ps))=true)(e:(av x ps)[i]?=some p):(∃k,dC aS k p=true)/\depth p<depth (.tup (.str x::ps)):=by
 obtain⟨s,h1,h2,h3,h4,h5,h6,a,_⟩:=bw h;unfold av at e;split at e;·simp at e
 ·rename_i nl;refine⟨EJ h3 (a (by simpa using nl)) e,?_⟩;have :=uP e;simp only[depth,aF];omega
theorem uT{k:Bool}{x:Str}{ps:List D}(h:dC aS k (.tup (.str x::ps))=true):(av x ps).length<=4:=by
 obtain⟨s,h1,h2,h3,h4,h5,h6,a,_⟩:=bw h;unfold av;split;·exact zQ25 _
 ·rw[<-h5];simpa using h4
structure Rt(d:D)(n:Nat):Prop where
 wf:∃k,dC aS k d=true
 dp:depth d<n
 ct:(plc d).length<=2000000
 n60:n<=60
theorem yI{nm:D->Bool}:dC nm true (.tup [.str "nat"])=true:=by refine iN (w:="nat") (s:="") (by decide+kernel) (by decide+kernel) ?_;rw[show(Str.ofString "").cps.toList=[]by decide+kernel];simp[iX,mV]
theorem NF{nm:D->Bool}:dC nm false (.tup [.str "zero"])=true:=by refine iN (w:="zero") (s:="") (by decide+kernel) (by decide+kernel) ?_;rw[show(Str.ofString "").cps.toList=[]by decide+kernel];simp[iX,mV]
theorem MJ{nm:D->Bool}{a:D}(b:dC nm false a=true):dC nm false (.tup [.str "next",a])=true:=by refine iN (w:="next") (s:="t") (by decide+kernel) (by decide+kernel) ?_;rw[show(Str.ofString "t").cps.toList=[116]by decide+kernel,bM];simp[iX,mV,b]
structure Th(d:D)(dp kn:Nat):Prop where
 wf:dC aS false d=true
 dp:depth d<=dp
 kn:aD d<=kn
def Wf(d:D):Prop:=∃k,dC aS k d=true
theorem jy{d:D}(h:Wf d):∃x ps k,d= .tup (.str x::ps)/\dC aS k d=true/\ps.length<=10:=by obtain⟨k,h⟩:=h;obtain⟨x,ps,rfl⟩:=eN h;obtain⟨sh,_,_,_,h4,h5,_⟩:=bw h;refine⟨x,ps,k,rfl,h,?_⟩;rw[<-h5];exact cw (by simpa using h4) (by decide)
end K57
end
section
namespace K57
open PySem L2 L3 KM
seal L2.PE L2.PS L2.kM L2.PT L2.PW L2.PA L2.PG L2.BA L2.PI L2.PC L2.PO L2.G0 L2.PK L3.Bc
variable{P:Program}{w:World}{K:PySem.W.Frag}{mg:Str->Option Value}{base:Heap}{t:Aq}
theorem sizeLine_eq:sizeLine=16777216:=by decide
def okH(d:D):Prop:=d= .bA\/d= .tup []\/∃x,d= .str x
mutual noncomputable def KZ:D->Prop| .tup []=>True| .tup (h::ps)=>okH h/\ZD ps/\ps.length<=20|_=>True noncomputable def ZD:List D->Prop|[]=>True|p::ps=>KZ p/\ZD ps end
mutual theorem Lg:∀{k:Bool}{d:D},dC aS k d=true->KZ d
 |k, .tup (.str x::ps),h=>by
  obtain⟨s,e1,e2,e3,e4,e5,_⟩:=bw h;refine⟨.inr (.inr ⟨x,rfl⟩),JB e3,?_⟩;have :s.cps.toList.length=s.cps.size:=by simp
  omega
 |k, .tup [],h=>by simp[dC]at h
 |k, .tup (.bA::_),h=>by simp[dC]at h
 |k, .tup (.bl _::_),h=>by simp[dC]at h
 |k, .tup (.int _::_),h=>by simp[dC]at h
 |k, .tup (.tup _::_),h=>by simp[dC]at h
 |k, .bA,h=>by simp[dC]at h
 |k, .bl _,h=>by simp[dC]at h
 |k, .int _,h=>by simp[dC]at h
 |k, .str _,h=>by simp[dC]at h theorem JB:∀{cs:List Nat}{ps:List D},mV aS cs ps=true->ZD ps
 |[],[],_=>trivial
 |[],_::_,h=>by simp[mV]at h
 |_::_,[],h=>by simp[mV]at h
 |c::cs,p::ps,h=>by
  rw[bM,bF]at h;refine⟨?_,JB h.2⟩;have h:=h.1;unfold iX at h;by_cases c1:c=107;·rw[if_pos c1]at h;exact Lg h
  ·rw[if_neg c1]at h;by_cases c2:c=116;·rw[if_pos c2]at h;exact Lg h
   ·rw[if_neg c2]at h;cases p<;>first|trivial|(simp[gW,aS]at h;done)end
theorem Jf:∀{ds:List D},KZ (.tup ds)->ds.length<=21|[],_=>by simp|_::ps,h=>by have :=h.2.2;simp;omega
theorem EB:∀{ps:List D}{p:D},ZD ps->p∈ps->KZ p
 |[],_,_,e=>by simp at e
 |q::ps,p,h,e=>by
  rcases List.mem_cons.mp e with rfl|e;·exact h.1
  ·exact EB h.2 e
theorem Wx:∀{d:D},KZ d->∀x∈tk d,KZ x
 | .tup [],_,x,a=>by simp[tk]at a
 | .tup (h::ps),ok,x,a=>by
  have hm:x∈h::ps:=(List.mem_filter.mp a).1;rcases List.mem_cons.mp hm with rfl|hm;·rcases ok.1 with rfl|rfl|⟨y,rfl⟩<;>simp[KZ]
  ·exact EB ok.2.1 hm
 | .bA,_,x,a=>by simp[tk]at a
 | .bl _,_,x,a=>by simp[tk]at a
 | .int _,_,x,a=>by simp[tk]at a
 | .str _,_,x,a=>by simp[tk]at a
theorem KH:∀(n:Nat)(l:List D),(∀x∈l,KZ x)->∀x∈lv n l,KZ x|0,_,h=>h|n+1,l,h=>KH n _ λx a=>by obtain⟨d,hd,a⟩:=List.mem_flatMap.mp a;exact Wx (h d hd) x a
noncomputable def iU(d:D):Bool:=!(decide (aD d<=600)&&decide (depth d<=40))
def Iy:Sp:=λvs H Q _=>∃ds v,vs=[v]/\Rep H (.tup ds) v/\KZ (.tup ds)/\aD (.tup ds)<=8000000/\∀H',aE H H'->Q (.bl (iU (.tup ds))) H'
noncomputable def jo(ds:List D)(vs:List V)(j:Nat):Option V:=if isTup ((ds[j]?).getD .bA)then vs[j]? else none
theorem vm{H:Hp}:∀{ds:List D}{vs:List V},bK H ds vs->bK H (ds.filter isTup) ((List.range vs.length).filterMap (jo ds vs))
 |[],_,r=>by have r:_=[]:=r;subst r;exact rfl
 |d::ds,_,⟨v,a,e,q,t⟩=>by
  subst e;have c:=vm t;rw[b_,List.range_succ_eq_map,mI,List.filterMap_map];have e:(jo (d::ds) (v::a)∘Nat.succ)=jo ds a:=by funext j;simp[jo]
  rw[e];by_cases hd:isTup d=true
  ·rw[List.filter_cons_of_pos hd];have b:jo (d::ds) (v::a) 0=some v:=by simp[jo,hd]
   simp only[b];exact⟨v,_,rfl,q,c⟩
  ·rw[List.filter_cons_of_neg hd];have b:jo (d::ds) (v::a) 0=none:=by simp[jo,hd]
   simp only[b];exact c
theorem l7(ds:List D):∀x∈[D.tup ds],isTup x=true:=λx a=>by rw[List.mem_singleton.mp a];rfl
theorem ng(ds:List D):aH [D.tup ds]=aD (.tup ds):=by simp[aH]
theorem GU(ds:List D):aF [D.tup ds]=depth (.tup ds):=by simp[aF]
theorem QI(i:Nat)(ds:List D):(lv i [D.tup ds]).length<=aD (.tup ds):=by have h:=rg (i+1) [D.tup ds] (l7 ds);rw[ng]at h;simp only[fX]at h;omega
theorem uk(l:List D)(j:Nat):((l.take j).flatMap tk).length<=(l.flatMap tk).length:=by
 have e:l.flatMap tk=(l.take j).flatMap tk++(l.drop j).flatMap tk:=by rw[<-List.flatMap_append,List.take_append_drop]
 rw[e,cS];omega
theorem Br{L:Nat}:∀(l:List D),(∀d∈l,(tk d).length<=L)->(l.flatMap tk).length<=l.length*L|[],_=>by simp|d::l,h=>by rw[List.flatMap_cons,cS,b_,Nat.add_mul,Nat.one_mul];have :=Br l λx a=>h x (ck _ a);have :=h d bI;omega
theorem SS{d:D}(h:KZ d):(tk d).length<=21:=by cases d with|tup es=>exact cw (List.length_filter_le _ _) (Jf h)|_=>simp[tk]
theorem KJ{ds:List D}{i:Nat}(h:600<fX i [D.tup ds]):iU (.tup ds)=true:=by have :=rg i [D.tup ds] (l7 ds);rw[ng]at this;unfold iU;rw[decide_eq_false (by omega)];rfl
theorem HX{ds:List D}(h:fX 40 [D.tup ds]<=600):iU (.tup ds)=decide (0<(lv 40 [D.tup ds]).length):=by
 have e:=Hs [D.tup ds] (l7 ds);rw[ng,GU]at e;unfold iU;by_cases c:lv 40 [D.tup ds]=[];·obtain⟨a,b⟩:=e.mp ⟨h,c⟩;rw[decide_eq_true a,decide_eq_true b,c];rfl
 ·have :¬(aD (.tup ds)<=600/\depth (.tup ds)<=40):=λz=>c (e.mpr z).2;have hl:0<(lv 40 [D.tup ds]).length:=List.length_pos_iff.mpr c;rw[decide_eq_true hl];by_cases a:aD (.tup ds)<=600;·rw[decide_eq_false λb=>this ⟨a,b⟩,Bool.and_false];rfl
  ·rw[decide_eq_false a];rfl
theorem cY:aG ["value","level","knots","depth","below","knot"] ["value"] (ak g_):=⟨rfl,rfl,rfl,by decide+kernel,rfl,by decide+kernel,by decide+kernel⟩
theorem GC(D:Df K mg "is_vast" g_ ["value"])(M:Mg mg t):bu P w K mg bx "is_vast" (1) ["value"] Iy:=by
 refine D.ok cY (λvs H Q E h=>?_) (λbase f bS A outer s H vs Q E hr h=>?_);·obtain⟨d,v,rfl,_⟩:=h;rfl
 obtain⟨ds,v,rfl,r,ok,hk,q⟩:=h;refine⟨_,(ag (aI (i:=1) cY.nd rfl (cj rfl) (bX (aa (pv 0) af))) (ag (aI (i:=2) cY.nd rfl (cj rfl) aj) (ag (dz PassesOwn.never rfl (dP rfl M.fO (aa (mi M.g_MOST_DEEP rfl) af)) (bb (i:=3) cY.nd rfl (cj rfl)) (ag (sY (i:=2) cY.nd rfl (cj rfl) (aJ aM rfl M.cH bO (aa (pv 1) af)) rZ) (ag (aT (aw nZ (pv 2) (mi M.g_MOST_KNOTS rfl) (az _)) (ai (aA qV)) aC) (ag (aI (i:=4) cY.nd rfl (cj rfl) (bX af)) (ag (dz PassesOwn.never rfl (iC (pv 1)) (bb (i:=5) cY.nd rfl (cj rfl)) (ai (dq (gg PySem.F.plainAttrs_list PySem.F.slot_list_extend PySem.F.type_list_extend nL (pv 4) (aa (eO (N':=["part"]) (own:=1) (fr:=[]) rfl (fY (N:=["value","level","knots","depth","below","knot"]) (sc:=ak g_) rfl rfl rfl (by decide+kernel)) (zr (pv 5)) (cU (by decide)) (λ_ _ _=>(bb (i:=0) (show List.Nodup (["part"]:List Str)by decide+kernel) rfl (Or.inl rfl))) (λ_ _ _=>(ye (dB (aJ (Ae (K:=K)) rfl M.dr cM (aa (pv 0) (aa (uV M.iB gk rfl) af)))))) (λ_ _ _=>(pv 0))) af))))) (ai (aI (i:=1) cY.nd rfl (cj rfl) (pv 4)))))))) (ai (aA (cG nZ (aJ aM rfl M.cH bO (aa (pv 1) af)) aj (az _))))))),?_⟩;try dsimp only[iF,cJ]
 refine pq ?_;intro _ _ _ _;refine⟨_,rfl,(gu rfl),λq1 CB=>?_⟩;have e1:(upd H q1 (.lst [v])) q1=some (.lst [v]):=ah;have s1:aE H (upd H q1 (.lst [v])):=ao CB _;refine⟨40,rfl,by decide,by decide,Gm (n:=40) (λi B H'=>∃(q:Addr)(us:List V)(O G g:Option V),B=[some v,some (.ref q),some (.int (fX i [KM.D.tup ds])),O,G,g]/\H' q=some (.lst us)/\bK H' (lv i [KM.D.tup ds]) us/\fX i [KM.D.tup ds]<=600/\aE H H') ?_ ?_ ?_⟩;·exact⟨q1,[v],none,none,none,rfl,e1,bK.one (r.mono s1),by simp[fX],s1⟩
 ·rintro i B l hi⟨q2,us,O,G,g,rfl,C,I,hup,s2⟩;have QA:=I.length;have lvl:=QI i ds;refine⟨_,rfl,_,rfl,q2,us,rfl, .inl (aZ.of C),_,_,rfl,rfl,?_⟩;have eu:((fX i [KM.D.tup ds]:Nat):Int)+((us.length:Nat):Int)=((fX (i+1) [KM.D.tup ds]:Nat):Int):=by simp only[fX];omega
  show aL _ _ _ [some v,some (.ref q2),some (.int (((fX i [KM.D.tup ds]:Nat):Int)+((us.length:Nat):Int))),some (.int (0+(i:Int))),G,g] l;rw[eu];refine⟨_,rfl,_,_,rfl,rfl,_,rfl,?_⟩;refine bL (λc=>?_) (λc=>?_);·have c:(600:Int)<((fX (i+1) [KM.D.tup ds]:Nat):Int):=of_decide_eq_true c;have e:=KJ (ds:=ds) (i:=i+1) (by omega);rw[e]at q;exact q l s2
  have c:¬(600:Int)<((fX (i+1) [KM.D.tup ds]:Nat):Int):=of_decide_eq_false (Bool.eq_false_iff.mpr c);refine⟨by show 0<=sizeLine;decide,λq4 Z=>?_⟩;have e4:(upd l q4 (.lst [])) q4=some (.lst []):=ah;have s4:aE l (upd l q4 (.lst [])):=ao Z _;refine⟨_,rfl,q2,rfl,⟨us,aZ.of (s4 _ _ C)⟩,Bq (xs:=us) (λj B H'=>∃(bs:List V)(g:Option V),B=[some v,some (.ref q2),some (.int (fX (i+1) [KM.D.tup ds])),some (.int (0+(i:Int))),some (.ref q4),g]/\H' q4=some (.lst bs)/\bK H' (((lv i [KM.D.tup ds]).take j).flatMap tk) bs/\aE l H') ?_ ?_ ?_ ?_⟩;·exact⟨[],g,rfl,e4,by simp[bK],s4⟩
  ·rintro j B H' _⟨bs,g,rfl,h4,rb,s'⟩;exact aZ.of (s' _ _ C)
  ·rintro j u B H5 hu⟨bs,g,rfl,h4,rb,J⟩;obtain⟨d,hd,rd⟩:=I.get' hu;have htd:=EU i [KM.D.tup ds] (l7 ds) d (m_ hd);obtain⟨es,rfl⟩:∃es,d= .tup es:=by cases d<;>first|exact⟨_,rfl⟩|cases htd
   obtain⟨a,ws,rfl,ha,S⟩:=rd.mono J;have hsz:ws.length<=sizeLine:=by have h1:=S.length;have h2:=Jf (KH i [KM.D.tup ds] (λx m=>by rw[List.mem_singleton.mp m];exact ok) _ (m_ hd));rw[sizeLine_eq];omega
   refine⟨_,rfl, .inl ⟨rfl,_,aZ.of h4⟩,_,rfl,a,rfl,⟨ws,cu.of ha⟩,λp Y=>B6 ws.length (jo es ws) Y hsz (λk L TU y=>?_) λL y h6=>?_⟩
   ·obtain⟨wk,F⟩:∃x,ws[k]?=some x:=⟨_,zQ03 TU⟩;have hqa:cu K L a ws:=cu.of (y _ _ ha);refine⟨⟨ws,wk,hqa,F⟩,?_⟩;rintro x' T⟨rfl,hy⟩R R0 hR Y2;have m:=hy ws hqa;rw[F]at m;cases m;obtain⟨dk,W,rk⟩:=S.get' F;refine⟨_,rfl,_,_,_,_,rfl,(Rep.mono y rk).ty,k_ _ dk,_,rfl,?_⟩;refine bL (λc=>?_) (λc=>?_);·exact⟨_,rfl,hR wk T (by simp[jo,W,c,F]) (aE.refl _)⟩
    ·exact Y2 T (by simp[jo,W,c]) (aE.refl _)
   ·have lb:=rb.length;have U:=y _ _ h4;have n4:q4≠p:=ay h4 Y;have hl:(lv i [KM.D.tup ds]).take (j+1)=(lv i [KM.D.tup ds]).take j++[KM.D.tup es]:=by rw[List.take_add_one,hd];rfl
    have X:((lv i [KM.D.tup ds]).take (j+1)).flatMap tk=((lv i [KM.D.tup ds]).take j).flatMap tk++es.filter isTup:=by rw[hl,List.flatMap_append];simp[tk]
    have rpk:=vm (S.mono y);have lpk:=rpk.length;have lfl:=uk (lv i [KM.D.tup ds]) (j+1);rw[<-qP,X,cS]at lfl;have lv1:(lv (i+1) [KM.D.tup ds]).length<=600*21:=by rw[qP];refine cw (Br _ λx m=>SS (KH i [KM.D.tup ds] (λx m=>by rw[List.mem_singleton.mp m];exact ok) x m)) (Nat.mul_le_mul_right _ ?_);simp only[fX]at c;omega
    have np:∀vs,L q4≠some (.tup vs):=λvs z=>by rw[U]at z;cases z
    refine⟨⟨ws,cu.of (y _ _ ha),zQ04 _⟩,q4,p,_,_,rfl,rfl,U,h6,?_,?_⟩;·rw[lb,lpk,sizeLine_eq];omega
    ·refine⟨_,_,rfl,ah,?_,λb o hb=>?_⟩;·rw[X];exact bK.d9 (bg.upd _) np ((rb.mono y).append rpk)
     ·rw[aP (ay hb Z)];exact y _ _ (J _ _ hb)
  ·rintro B H5⟨bs,g,rfl,h4,rb,J⟩;rw[rY (by omega),<-qP]at rb;refine⟨_,rfl,q4,bs,_,_,_,rfl,h4,rb,by omega,s2.trans J⟩
 ·rintro B l⟨q2,us,O,G,g,rfl,C,I,hup,s2⟩;refine⟨_,rfl,q2,us,rfl, .inl (aZ.of C),_,_,rfl,rfl,?_⟩;have e:decide ((0:Int)<((us.length:Nat):Int))=iU (.tup ds):=by rw[HX hup,I.length];simp
  show Q (.bl (decide ((0:Int)<((us.length:Nat):Int)))) l;rw[e];exact q l s2
end K57
end
section
namespace K57
open PySem L2 L3 KM PyProof.Rows
seal L2.PE L2.PS L2.kM L2.PT L2.PW L2.PA L2.PG L2.BA L2.PI L2.PC L2.PO L2.G0 L2.PK L3.Bc
variable{P:Program}{w:World}{K:PySem.W.Frag}{mg:Str->Option Value}{base:Heap}{t:Aq}
theorem G_{k:Bool}{x:Str}{ps:List D}(h:dC aS k (.tup (.str x::ps))=true)(g:gG x=true):∀(i:Nat)(p:D),ps[i]?=some p->isTup p=false/\(gW p=true\/aS p=true):=by
 obtain⟨s,h1,h2,h3,h4,h5,h6,l,_⟩:=bw h;have hc:∀(cs:List Nat)(a:List D)(i:Nat),mV aS cs a=true->(∀c∈cs,Uc c=!gG x)->∀p,a[i]?=some p->isTup p=false/\(gW p=true\/aS p=true):=λcs=>by
  induction cs with
   |nil=>intro a i hq _ p e;cases a with|nil=>simp at e|cons _ _=>simp[mV]at hq
   |cons c cs j=>
    intro a i hq f p e;cases a with
     |nil=>simp[mV]at hq
     |cons q a=>
      rw[bM,bF]at hq;cases i with
       |zero=>
        simp at e;subst e;have d:=f c bI;rw[g]at d;have b:=hq.1;unfold iX at b;rw[if_neg (λz=>by rw[z,kt1]at d;cases d),if_neg (λz=>by rw[z,kt2]at d;cases d)]at b;split at b;·exact⟨by cases q<;>simp[gW]at b<;>rfl, .inl b⟩
        ·exact⟨by cases q<;>simp[aS]at b<;>rfl, .inr b⟩
       |succ i=>exact j a i hq.2 (λc hc=>f c (ck _ hc)) p (by simpa using e)
 exactλi p e=>hc _ ps i h3 h6 p e
theorem u7:∀(ps:List D),(∀(i:Nat)(p:D),ps[i]?=some p->isTup p=false)->aH ps=0/\aF ps=0
 |[],_=>⟨rfl,rfl⟩
 |p::ps,h=>by
  obtain⟨h1,h2⟩:=u7 ps λi q e=>h (i+1) q (by simpa using e);have a:=h 0 p rfl;have b:aD p=0:=by cases p<;>first|rfl|simp[isTup]at a
  have c:depth p=0:=by cases p<;>first|rfl|simp[isTup]at a
  simp[aH,aF,h1,h2,b,c]
theorem sC:∀ps:List D,aH ps=(ps.map aD).sum|[]=>rfl|p::ps=>by simp[aH,sC ps]
theorem tX:∀ps:List D,aF ps=pK (ps.map depth)|[]=>rfl|p::ps=>by rw[aF,tX ps];rfl
theorem cc{k:Bool}{x:Str}{ps:List D}(h:dC aS k (.tup (.str x::ps))=true):aD (.tup (.str x::ps))=1+((av x ps).map aD).sum/\depth (.tup (.str x::ps))=1+pK ((av x ps).map depth):=by
 rw[<-sC,<-tX];have b:aD (.tup (.str x::ps))=1+aH ps:=by simp[aD,aH]
 have c:depth (.tup (.str x::ps))=1+aF ps:=by simp[depth,aF]
 rw[b,c];unfold av;by_cases a:gG x=true;·obtain⟨d,f⟩:=u7 ps λi p e=>(G_ h a i p e).1;rw[if_pos a,d,f];exact⟨rfl,rfl⟩
 ·rw[if_neg a];exact⟨rfl,rfl⟩
structure Rz(d:D)(n:Nat):Prop where
 wf:Wf d
 dp:depth d<n
 kn:aD d<=8000000
theorem Rz.kid{n:Nat}{x:Str}{ps:List D}{i:Nat}{p:D}(h:Rz (.tup (.str x::ps)) (n+1))(e:(av x ps)[i]?=some p):Rz p n:=by obtain⟨k,wf⟩:=h.wf;obtain⟨b,c⟩:=dy wf e;have hd:=h.dp;have a:=h.kn;refine⟨b,by omega,?_⟩;rw[(cc wf).1]at a;have :=tD ((av x ps).map aD) i;rw[gs,e]at this;have :aD p<=((av x ps).map aD).sum:=this;omega
def Ed(n:Nat):Sp:=λvs H Q _=>∃(d:D)(v:V),vs=[v]/\Rep H d v/\Rz d n/\∀H',aE H H'->Q (.int (depth d:Nat)) H'
theorem NV{a:Hp}{p:Addr}{ks:List D}(h:a p=some (.lst ((List.range ks.length).map λi=>V.int (depth ((ks[i]?).getD .bA):Nat)))):aZ K a p ((ks.map λd=>((depth d:Nat):Int)).map V.int):=by refine aZ.of ?_;rw[h];rw[List.map_map,GZ (λd=>V.int (depth d:Nat)) .bA ks];rfl
def Ff(n:Nat):Sp:=λvs H Q _=>∃(d:D)(v:V),vs=[v]/\Rep H d v/\Rz d n/\∀(i:Int)(H':Hp),i<=99->aE H H'->Q (.int i) H'
theorem pF:aG ["thing"] ["thing"] (ak cq):=⟨rfl,rfl,rfl,by decide+kernel,rfl,by decide+kernel,by decide+kernel⟩
theorem pC{n:Nat}(D:Df K mg "top_variable" cq ["thing"])(M:Mg mg t)(L:bu P w K mg bx "kids_of" (1) ["thing"] fR)(O:bu P w K mg bx "top_variable" (n+3) ["thing"] (Ff n)):bu P w K mg bx "top_variable" (n+4) ["thing"] (Ff (n+1)):=by
 refine D.ok pF (λvs H Q E h=>?_) (λbase f bS A outer s H vs Q E hr h=>?_);·obtain⟨d,v,rfl,_⟩:=h;rfl
 obtain⟨d,v,rfl,r,G,q⟩:=h;obtain⟨x,ps,k,rfl,wf,Z⟩:=jy G.wf;have X:=uT wf;obtain⟨a,J,rfl,ha,v0,J,rfl,⟨rfl,o⟩,rp⟩:=id r;have T:lJ (V.str x::J) 0=some (.str x):=aR (j:=0) rfl;refine⟨_,(ag (aT (aw aY (aX bB (pv 0) aj (λ_ _=>rfl)) aq (az _)) (ai (aA (aX bB (pv 0) aj (λ_ _=>rfl)))) aC) (ai (aA (FY M.FU (aa (eO (N':=["kid"]) (own:=1) (fr:=[]) rfl (fY (N:=["thing"]) (sc:=ak cq) rfl rfl rfl (by decide+kernel)) (iC (aO L hr.m rfl aQ (aa (pv 0) af))) (cU (by decide)) (λ_ _ _=>(bb (i:=0) (show List.Nodup (["kid"]:List Str)by decide+kernel) rfl (Or.inl rfl))) (λ_ _ _=>gH) (λ_ _ _=>(aO O hr.m rfl aQ (aa (pv 0) af)))) af) (Fb aj Ij))))),?_⟩;try dsimp only[iF,cJ]
 refine vX ?_;intro _ _;refine⟨_,rfl,a,_,_,_,rfl,rfl,cu.of ha,T,rfl,_,rfl,?_⟩;refine bL (λc=>?_) (λc=>?_)
 ·have c:V.str x=V.str "var":=of_decide_eq_true c;cases c;obtain⟨sh,B,_,l,_,m,_⟩:=bw wf;rw[eJ]at B;cases B;rw[vh]at l m;obtain⟨b,rfl⟩:∃b,ps=[b]:=by cases ps with|nil=>simp at m|cons b rest=>cases rest with|nil=>exact⟨b,rfl⟩|cons _ _=>simp at m
  rw[bM,bF]at l;have hn:gW b=true:=by simpa[iX]using l.1
  obtain⟨i,rfl⟩:∃i,b= .int i:=by cases b<;>first|exact⟨_,rfl⟩|simp[gW]at hn
  obtain⟨u1,RD,rfl,e,_⟩:=rp;cases(show u1=V.int i from e);have hi:i<=99:=by simp[gW]at hn;exact hn.2
  exact⟨_,rfl,a,_,_, .int i,rfl,rfl,cu.of ha,aR (j:=1) rfl,q i H hi (aE.refl H)⟩
 refine⟨_,rfl,x,ps,_,rfl,r,Z,λp1 us H1 _ s1 h1 e=>⟨p1,rfl,⟨us,aZ.of h1⟩,λp2 Y=>?_⟩⟩;have l1:=e.length;refine Hl (av x ps).length (λ_ z=>z<=99) Y (cw X (by decide)) (λi u hi s2=>?_) λns u s2 hl U h2=>⟨⟨us,aZ.of (s2 _ _ h1),by omega⟩,?_⟩;·obtain⟨g,C⟩:∃g,(av x ps)[i]?=some g:=⟨_,zQ03 hi⟩;obtain⟨I,F,Mo⟩:=e.get C;refine⟨⟨us,I,aZ.of (s2 _ _ h1),F⟩,?_⟩;rintro y H3⟨rfl,hy⟩R W;have o:=hy us (aZ.of (s2 _ _ h1));rw[F]at o;cases o;exact⟨_,rfl,g,I,rfl,Mo.mono s2,G.kid C,λz S p s4=>W z S s4 p⟩
 ·refine⟨p2,ns,_,rfl,rfl,aZ.of h2,?_⟩;refine q _ u (maxD_le (by decide) λz p=>?_) (s1.trans s2);obtain⟨i,hi,rfl⟩:=List.mem_iff_getElem.mp p;exact U i _ (zQ03 hi)
theorem jb(D:Df K mg "top_variable" cq ["thing"])(M:Mg mg t)(a:bu P w K mg bx "kids_of" (1) ["thing"] fR):∀n:Nat,bu P w K mg bx "top_variable" (n+3) ["thing"] (Ff n)|0=>bu.never D λvs H Q E⟨d,v,_,_,h,_⟩=>absurd h.dp (Nat.not_lt_zero _)|n+1=>pC D M a (jb D M a n)
def vg(C:Addr)(n:Nat):Sp:=λvs H Q E=>∃(d:D)(v:V),vs=[v]/\Rep H d v/\Rz d n/\(∀H',aE H H'->iU d=false->Q v H')/\(∀H',aE H H'->iU d=true->E (.ref C) none H')
theorem C3:aG ["thing"] ["thing"] (ak jO):=⟨rfl,rfl,rfl,by decide+kernel,rfl,by decide+kernel,by decide+kernel⟩
theorem GV{n:Nat}(D:Df K mg "bounded" jO ["thing"])(M:Mg mg t)(b:tJ K t.gJ)(g:bu P w K mg bx "is_vast" (1) ["value"] Iy)(j:bu P w K mg bx "top_variable" (n+3) ["thing"] (Ff n)):bu P w K mg (gO P w) "bounded" (n+4) ["thing"] (vg t.gJ n):=by
 refine D.LY C3 (λvs H Q E h=>?_) (λbase f bS A outer s H vs Q E hr h=>?_);·obtain⟨d,v,rfl,_⟩:=h;rfl
 obtain⟨d,v,rfl,r,a,q,u⟩:=h;obtain⟨x,ps,k,rfl,wf,z⟩:=jy a.wf;refine⟨_,(ag (aT (L2.PW.pt (fE (dB (aO g hr.m rfl aQ (aa (pv 0) af))) (fB (aw nZ (aO j hr.m rfl aQ (aa (pv 0) af)) (mi M.g_MOST_VARIABLE rfl) (az _))))) (ai (dH (G:=(λH'=>E (.ref t.gJ) none H')) b M.g_Great (aa aq af) (λpins σ H s e h' I m q=>eP I m q))) aC) (ai (aA (pv 0)))),?_⟩;try dsimp only[iF,y]
 refine vX ?_;intro _ _;refine⟨_,rfl,_,v,rfl,r,Lg wf,a.kn,λl s1=>⟨_,rfl,?_⟩⟩;refine bL (λc=>bj ⟨by decide,u l s1 c⟩) (λc=>?_);refine⟨_,rfl,_,v,rfl,r.mono s1,a,λi o hi s2=>⟨_,_,rfl,rfl,_,rfl,?_⟩⟩;refine bL (λp=>absurd (of_decide_eq_true p) (by omega)) (λ_=>⟨_,rfl,q o (s1.trans s2) (Bool.eq_false_iff.mpr c)⟩)
noncomputable abbrev Rb(d:D)(n:Nat):Prop:=Rz d n
end K57
end
section
namespace L3
open PySem PySem.Spec PyProof.Rows L2 KM
def Dm(K:PySem.W.Frag)(C:Addr)(m qual:Str)(st:Stmt)(ps:List Str):Prop:=∃f fd,Nj K m qual st f fd/\Meth K C m f/\Binds K fd ps []
noncomputable def jR(P:Program)(w:World)(K:PySem.W.Frag)(mg:Str->Option Value)(CX:qm)(C:Addr)(m:Str)(k:Nat)(ps:List Str)(sp:Sp):Prop:=∃f fd,(∀base,pB P w K mg base CX k f fd ps sp)/\Meth K C m f/\Binds K fd ps []
section
variable{P:Program}{w:World}{K:PySem.W.Frag}{mg:Str->Option Value}{C:Addr}{m qual:Str}{st:Stmt}{N ps:List Str}{k:Nat}{sp:Sp}
theorem Dm.ok(D:Dm K C m qual st ps)(S:aG N ps (ak st))(len:∀vs H Q E,sp vs H Q E->vs.length=ps.length)(a:∀(base:Heap)(f:Addr)(bS:Value)(A:Around)(outer:List Env)(s:Shared)(H:Hp)(vs:List V)(Q:VK)(E:XK),cR k (A.deeper (envOfC qual (ak st) s.heap.objs.size f bS))->sp vs H Q E->∃t,kM (dX bx P w K mg base N qual (ak st) f bS A outer s H E).JT (bG st) t/\t {nx:=λ_ H'=>Q .bA H',rt:=Q} (start N vs) H):jR P w K mg bx C m (k+1) ps sp:=by obtain⟨f,fd,F,M,b⟩:=D;exact⟨f,fd,λbase=>F.ok S len (a base f),M,b⟩
theorem Dm.LY(D:Dm K C m qual st ps)(S:aG N ps (ak st))(len:∀vs H Q E,sp vs H Q E->vs.length=ps.length)(a:∀(base:Heap)(f:Addr)(bS:Value)(A:Around)(outer:List Env)(s:Shared)(H:Hp)(vs:List V)(Q:VK)(E:XK),cR k (A.deeper (envOfC qual (ak st) s.heap.objs.size f bS))->sp vs H Q E->∃t,kM (dX (gO P w) P w K mg base N qual (ak st) f bS A outer s H E) (bG st) t/\t {nx:=λ_ H'=>Q .bA H',rt:=Q} (start N vs) H):jR P w K mg (gO P w) C m (k+1) ps sp:=by obtain⟨f,fd,F,M,b⟩:=D;refine⟨f,fd,λbase=>?_,M,b⟩;obtain⟨oc,od,kV,doc,pm,an,bS,ct,HI,rfl,e,c⟩:=F.ex;exact J7 e c S len λA outer s H vs Q E hr d=>a base f bS A outer s H vs Q E hr d
end
section
variable{X:Cx}{CX:qm}{C:Addr}{m x:Str}{k:Nat}{ps:List Str}{sp:Sp}{E:XK}{o e:Expr}{es:List Expr}{ta:TE}{t:TA}{p pos apos:Pos}{pl:Sem Bool}
theorem Oh(F:jR X.prog X.w X.K X.mg CX C m k ps sp)(c:JY X.K C)(hr:cR k X.A)(y:Passes CX X E)(he:PE X o ta)(ha:PA X (e::es) t)(w:starEach (e::es) X.env=(false,eval e X.env)::starEach es X.env:=by rfl)(v:(backTo pos (starEach es X.env)).any (·.1)=false:=by rfl)(ht:eval (.Call (.Attribute o m apos) (e::es) [] pos) X.env=(do let i<-eval o X.env;standAt apos.atName;let(f,first)<-holding [i] (getMethod i m pl);callWith pos f first (backTo pos (starEach (e::es) X.env)) (backToKw pos (keywordEach [] X.env))):=by rfl)(hc:X.calm=true:=by rfl):PE X (.Call (.Attribute o m apos) (e::es) [] pos) (Ob C m sp [] E ta t):=by obtain⟨f,fd,F,hm,hb⟩:=F;intro pins s σ H Q I h;refine PySem.W.methodCall_KW (pl:=pl) (bE (he pins s σ H _ I h) λu s1 A=>?_) ht;obtain⟨x,j,g,z,a,dx,fs,ex,n,l,q⟩:=A;subst ex;obtain rfl:u=Value.ref a:=z;refine sO g n c hm l ?_;refine PySem.W.callWith_K (first:=[.ref a]) (h₀:=X.base) I.ok.mod.Ez hm.kp (bE (ha pos pins s1 σ j _ g q) λus s2⟨vs,d,b,r,q2⟩=>⟨b.jl,?_⟩) w v;have q2:sp (.ref a::(vs++[])) d Q E:=q2;rw[eF]at q2;exact xp (us:= .ref a::us) (vs:= .ref a::vs) F hr hb b hc (λe s' hc=>y pins σ d s2 e s' b hc) (.cons rfl r) q2
theorem sL(F:jR X.prog X.w X.K X.mg CX C m k ps sp)(c:JY X.K C)(hr:cR k X.A)(j:Passes CX X E)(he:PE X o ta)(ht:eval (.Call (.Attribute o m apos) [] [] pos) X.env=(do let g<-eval o X.env;standAt apos.atName;let(f,first)<-holding [g] (getMethod g m pl);callWith pos f first (backTo pos (starEach [] X.env)) (backToKw pos (keywordEach [] X.env))):=by rfl)(hc:X.calm=true:=by rfl):PE X (.Call (.Attribute o m apos) [] [] pos) (Ob C m sp [] E ta nE):=by obtain⟨f,fd,F,hm,hb⟩:=F;intro pins s σ H Q I h;refine PySem.W.methodCall_KW (pl:=pl) (bE (he pins s σ H _ I h) λu s1 r=>?_) ht;obtain⟨x,d,b,n,a,dx,fs,ex,i,l,q⟩:=r;subst ex;obtain rfl:u=Value.ref a:=n;refine sO b i c hm l ?_;have q:sp [.ref a] d Q E:=q;exact PySem.W.callWith_K0 (first:=[.ref a]) b.jl hm.kp (xp (us:=[.ref a]) (vs:=[.ref a]) F hr hb b hc (λe s' hc=>j pins σ d s1 e s' b hc) (.cons rfl .nil) q)
end
structure MkC(K:PySem.W.Frag)(C f:Addr):Prop where
 makes:PySem.W.makesIn K C=true
 init:PySem.W.findIn K (.ref C) "__init__"=some (some (.ref f))
 fn:PySem.W.isFn K (.ref f)=true
 kp:PySem.W.keepIn K (.ref C)=true
noncomputable def L5(P:Program)(w:World)(K:PySem.W.Frag)(mg:Str->Option Value)(x:Str)(C:Addr)(k:Nat)(ps:List Str)(sp:Sp):Prop:=∃f fd,(∀base,pB P w K mg base bx k f fd ps sp)/\MkC K C f/\mg x=some (.ref C)/\Binds K fd ps []
section
variable{X:Cx}{C:Addr}{x:Str}{k:Nat}{ps:List Str}{sp:Sp}{e:Expr}{es:List Expr}{t:TA}{p pos:Pos}
theorem Du(F:L5 X.prog X.w X.K X.mg x C k ps sp)(hr:cR (k+1) X.A)(m:Gl X x)(o:Passes bx X E0)(ha:PA X (e::es) t)(l:(x==("__debug__":Str))=false:=by decide)(he:starEach (e::es) X.env=(false,eval e X.env)::starEach es X.env:=by rfl)(n:(backTo pos (starEach es X.env)).any (·.1)=false:=by rfl)(hc:X.calm=true:=by rfl):PE X (.Call (.Name x p) (e::es) [] pos) (Vl C sp [] E0 t):=by
 obtain⟨f,fd,F,M,hm,hb⟩:=F;intro pins y σ H0 Q c h;refine wpAny_Call_Name_kw (jK c m hm ?_ l);refine PySem.W.callWith_K (h₀:=X.base) c.ok.mod.Ez M.kp (bE (ha pos pins y σ H0 _ c h) λus s⟨vs,H,I,r,q⟩=>⟨I.jl,?_⟩) he n;have hq:=q (s.heap.objs.size+1) s.heap.objs.size (I.bT.fresh (Nat.le_succ _)) (I.bT.fresh (zQ04 _)) (zQ18 (Nat.lt_succ_self _));rw[eF]at hq;have b:=Inv.made (C:=C) I;have g:Vals (V.ref (s.heap.objs.size+1)::vs) (Value.ref (s.heap.objs.size+1)::us):= .cons rfl r;have hl:(Value.ref (s.heap.objs.size+1)::us).length=ps.length:=by rw[<-g.length];exact(F X.base).len _ _ _ _ hq
 have d:=hb _ (Value.ref (s.heap.objs.size+1)::us) b.jl (by rw[eF];exact hl);rw[eF]at d;refine wpAny_call (KC (f:=f) I.jl M.makes M.init (beq_iff_eq.mp M.fn) (codeAny_mono ((F _).run _ X.stack _ _ ⟨Value.ref (s.heap.objs.size+1)::us,[]⟩ (Value.ref (s.heap.objs.size+1)::us) _ _ E0 (hr.make C us []) ((MA b hc).make C us []) d g hq) λr s' a=>?_));cases r with|error e=>exact o pins σ _ _ e s' b a|ok fl=>cases fl with|ret u=>obtain⟨v,H',i,w,j,q3⟩:=b.after a;subst j;exact⟨w,⟨V.ref (s.heap.objs.size+1),H',i,rfl,q3⟩⟩|next=>exact False.elim a|brk=>exact False.elim a|cont=>exact False.elim a
end
end L3
end
section
namespace K57
open PySem L2 L3 KM PyProof.Rows
seal L2.PE L2.PS L2.kM L2.PT L2.PW L2.PA L2.PG L2.BA L2.PI L2.PC L2.PO L2.G0 L2.PK L3.Bc L3.J9 L3.LC L3.lH L3.Ui
variable{P:Program}{w:World}{K:PySem.W.Frag}{mg:Str->Option Value}{base:Heap}{t:Aq}
structure oO(K:PySem.W.Frag)(C:Addr):Prop where
 cls:JY K C
 word:gQ K C "word"
 name:gQ K C "name"
 i_:gQ K C "due"
 parts:gQ K C "parts"
noncomputable def Y6(w n d:V)(p:Addr):List (Str×V):=[("word",w),("name",n),("due",d),("parts", .ref p)]
def xT(C:Addr):Sp:=λvs H Q _=>∃(x dx:Addr)(w n d:V),vs=[.ref x,w,n,d]/\H x=some (.ins C dx [])/\∀(p:Addr)(H':Hp),H p=none->p≠x->H' p=some (.lst [])->H' x=some (.ins C dx (Y6 w n d p))->(∀b o,b≠x->H b=some o->H' b=some o)->Q .bA H'
theorem vJ:aG ["self","word","name","due"] ["self","word","name","due"] (ak cz):=⟨rfl,rfl,rfl,by decide+kernel,rfl,by decide+kernel,by decide+kernel⟩
theorem c_Form_init(D:Dm K t.Form "__init__" "Form.__init__" cz ["self","word","name","due"])(M:Mg mg t)(aK:oO K t.Form):jR P w K mg bx t.Form "__init__" (1) ["self","word","name","due"] (xT t.Form):=by
 refine D.ok vJ (λvs H Q E h=>?_) (λbase f bS A outer s H vs Q E hr h=>?_);·obtain⟨x,dx,w,n,d,rfl,_⟩:=h;rfl
 obtain⟨x,dx,w,n,d,rfl,e,q⟩:=h;refine⟨_,(ag (wJ (pv 0) (pv 1) rfl) (ag (wJ (pv 0) (pv 2) rfl) (ag (wJ (pv 0) (pv 3) rfl) (ai (wJ (pv 0) (bX af) rfl))))),?_⟩;try dsimp only[iF,i]
 refine pq ?_;intro _ _ _ _;refine⟨_,rfl,_,rfl,x,t.Form,dx,[],rfl,e,aK.cls,aK.word,(by decide),?_⟩;refine⟨_,rfl,_,rfl,x,t.Form,dx,_,rfl,ah,aK.cls,aK.name,(by show 1<1000;decide),?_⟩;refine⟨_,rfl,_,rfl,x,t.Form,dx,_,rfl,ah,aK.cls,aK.i_,(by show 2<1000;decide),?_⟩;refine⟨(gu rfl),λp a=>?_⟩;rw[Fl,Fl]at a⊢;have c:p≠x:=λz=>by rw[z,ah]at a;cases a
 rw[aP c]at a;refine⟨_,rfl,x,t.Form,dx,_,rfl,(by rw[aP c.symm];exact ah),aK.cls,aK.parts,(by show 3<1000;decide),?_⟩;refine q p _ a c (by rw[aP c];exact ah) ah λb o hb h=>?_;have g:b≠p:=ay h a;rw[aP hb,aP g,aP hb];exact h
structure Fm(K:PySem.W.Frag)(C:Addr)(H:Hp)(x:Addr)(w n:V)(ds:List V)(p:Addr)(ps:List V):Prop where
 obj:∃(dx d:Addr),H x=some (.ins C dx (Y6 w n (.ref d) p))/\cu K H d ds
 parts:H p=some (.lst ps)
theorem Fm.mono{C x p:Addr}{H H':Hp}{w n:V}{ds ps:List V}(F:Fm K C H x w n ds p ps)(s:aE H H'):Fm K C H' x w n ds p ps:=by
 obtain⟨dx,d,a,hd⟩:=F.obj;refine⟨⟨dx,d,s _ _ a,?_⟩,s _ _ F.parts⟩;rcases hd with h|h;·exact .inl (h.imp (λh=>s _ _ h) λ⟨o,h⟩=>⟨o,s _ _ h⟩)
 ·exact .inr h
def vN(K:PySem.W.Frag)(C:Addr):Sp:=λvs H Q _=>∃(x p:Addr)(w n:V)(ds ps:List V),vs=[.ref x]/\Fm K C H x w n ds p ps/\Q (.bl (decide (ps.length=ds.length))) H
theorem pz:aG ["self"] ["self"] (ak bH):=⟨rfl,rfl,rfl,by decide+kernel,rfl,by decide+kernel,by decide+kernel⟩
theorem c_Form_is_full(D:Dm K t.Form "is_full" "Form.is_full" bH ["self"])(M:Mg mg t)(aK:oO K t.Form):jR P w K mg bx t.Form "is_full" (1) ["self"] (vN K t.Form):=by
 refine D.ok pz (λvs H Q E h=>?_) (λbase f bS A outer s H vs Q E hr h=>?_);·obtain⟨x,p,w,n,ds,ps,rfl,_⟩:=h;rfl
 obtain⟨x,p,w,n,ds,ps,rfl,F,q⟩:=h;obtain⟨dx,d,a,hd⟩:=F.obj;refine⟨_,(ai (aA (cG aY (aJ aM rfl M.cH bO (aa (eL (pv 0) rfl) af)) (aJ aM rfl M.cH bO (aa (eL (pv 0) rfl) af)) (az _)))),?_⟩;try dsimp only[iF,b]
 refine⟨_,rfl,x,t.Form,dx,_,_,rfl,a,aK.cls,aK.parts,rfl,p,_,rfl, .inl (aZ.of F.parts),_,rfl,x,t.Form,dx,_,_,rfl,a,aK.cls,aK.i_,rfl,d,_,rfl, .inr hd,rfl,?_⟩;have e:decide (V.int ((ps.length:Nat):Int)=V.int ((ds.length:Nat):Int))=decide (ps.length=ds.length):=by
  by_cases h:ps.length=ds.length;·rw[h];simp
  ·rw[decide_eq_false h];exact decide_eq_false λz=>h (by injection z with z;omega)
 rw[e];exact q
def sv(K:PySem.W.Frag)(C N:Addr):Sp:=λvs H Q E=>∃(x p a:Addr)(w n:V)(ds ps us:List V)(y:Str),vs=[.ref x, .ref a]/\Fm K C H x w n ds p ps/\H a=some (.tup (.str y::us))/\ps.length<1000/\(ps.length=ds.length->E (.ref N) none H)/\(∀dd:Str,ds[ps.length]?=some (.str dd)->dE y≠decide (dd="kind")->E (.ref N) none H)/\(ps.length≠ds.length->∃dd:Str,ds[ps.length]?=some (.str dd)/\(dE y=decide (dd="kind")->∀H',H' p=some (.lst (ps++[.ref a]))->bg p H H'->Q .bA H'))
theorem zi:aG ["self","thing"] ["self","thing"] (ak cA):=⟨rfl,rfl,rfl,by decide+kernel,rfl,by decide+kernel,by decide+kernel⟩
theorem c_Form_take(D:Dm K t.Form "take" "Form.take" cA ["self","thing"])(M:Mg mg t)(aK:oO K t.Form)(k:tJ K t.bc)(T:Nk K t.iz [.str "nat", .str "none", .str "all", .str "some", .str "same"])(o:jR P w K mg bx t.Form "is_full" (1) ["self"] (vN K t.Form)):jR P w K mg (gO P w) t.Form "take" (2) ["self","thing"] (sv K t.Form t.bc):=by
 refine D.LY zi (λvs H Q E h=>?_) (λbase f bS A outer s H vs Q E hr h=>?_);·obtain⟨x,p,a,w,n,ds,ps,us,y,rfl,_⟩:=h;rfl
 obtain⟨x,p,a,w,n,ds,ps,us,y,rfl,F,ha,hlen,r,i,q⟩:=h;obtain⟨dx,d,g,hd⟩:=id F.obj;refine⟨_,(ag (aT (dB (sL o aK.cls hr.m aQ (pv 0))) (ai (dH (G:=(λH'=>E (.ref t.bc) none H')) k M.g_NoText (aa aq af) (λpins σ H s e h' I m q=>eP I m q))) aC) (ag (aT (aw PZ (cG m5 (aX bB (pv 1) aj (λ_ _=>rfl)) (gD M.g_KIND_WORDS rfl) rfl) (cG aY (aX bB (eL (pv 0) rfl) (aJ aM rfl M.cH bO (aa (eL (pv 0) rfl) af)) (λ_ _=>rfl)) aq (az _)) (az _)) (ai (dH (G:=(λH'=>E (.ref t.bc) none H')) k M.g_NoText (aa aq af) (λpins σ H s e h' I m q=>eP I m q))) aC) (ai (dq (gg PySem.F.plainAttrs_list PySem.F.slot_list_append PySem.F.type_list_append dj (eL (pv 0) rfl) (aa (pv 1) af)))))),?_⟩;try dsimp only[iF,v]
 refine CK ?_;intro _ _ _;refine⟨_,rfl,x,dx,_,rfl,g,rfl,x,p,w,n,ds,ps,rfl,F,_,rfl,bL (λc=>?_) (λc=>?_)⟩;·exact⟨by decide,r (of_decide_eq_true c)⟩
 have c:ps.length≠ds.length:=λz=>c (decide_eq_true z);obtain⟨dd,l,q⟩:=q c;have i:=i dd l;have u:decide (V.str dd=V.str "kind")=decide (dd="kind"):=by
  by_cases h:dd="kind";·rw[h];simp
  ·rw[decide_eq_false h];exact decide_eq_false λz=>h (by injection z)
 refine⟨_,rfl,a,_,_,_,rfl,rfl,cu.of ha,aR (j:=0) rfl,t.iz,_,rfl, .inr (.inr T),rfl,rfl,_,rfl,x,t.Form,dx,_,_,rfl,g,aK.cls,aK.i_,rfl,_,rfl,x,t.Form,dx,_,_,rfl,g,aK.cls,aK.parts,rfl,p,_,rfl, .inl (aZ.of F.parts),d,_,_,_,rfl,rfl,hd,aR l,rfl,rfl,_,rfl,?_⟩;rw[u];show if(!decide (V.bl (dE y)=V.bl (decide (dd="kind"))))=true then _ else _;refine bL (λb=>?_) (λb=>?_);·refine⟨by decide,i λz=>?_⟩;rw[z]at b;simp at b
 ·have b:dE y=decide (dd="kind"):=by
   have :decide (V.bl (dE y)=V.bl (decide (dd="kind")))=true:=by simpa using b
   have :=of_decide_eq_true this;injection this
  refine⟨_,rfl,x,t.Form,dx,_,_,rfl,g,aK.cls,aK.parts,rfl, .inl ⟨rfl,_,aZ.of F.parts⟩,_,rfl,p,_,_,rfl,rfl,F.parts,(by rw[sizeLine_eq];omega),?_⟩;exact q b _ ah (bg.upd _)
noncomputable def abc:Str:="abcdefghijklmnopqrstuvwxyz"
noncomputable def iY(c:Nat):Bool:=!(Builtin.Str.occurrences abc ⟨#[c]⟩ 0 abc.length 1).isEmpty
noncomputable def iT:D->Bool| .str x=>decide ((1:Int)<=x.length)&&(decide ((x.length:Int)<=12)&&((ba.lookup x).isNone&&x.cps.toList.all iY))|_=>false
def lC:Sp:=λvs H Q _=>∃d v,vs=[v]/\Rep H d v/\∀H',aE H H'->Q (.bl (iT d)) H'
theorem Cy(x:Str):((List.range x.cps.size).map λi=>V.bl (iY ((x.cps[i]?).getD 0)))=(x.cps.toList.map iY).map V.bl:=by
 apply List.ext_getElem?;intro i;by_cases h:i<x.cps.size;·simp[h]
 ·simp[h]
theorem Dv:aG ["value"] ["value"] (ak g7):=⟨rfl,rfl,rfl,by decide+kernel,rfl,by decide+kernel,by decide+kernel⟩
theorem Hf(D:Df K mg "is_name" g7 ["value"])(M:Mg mg t){as:List Addr}(T:KD K t.jc ba as):bu P w K mg bx "is_name" (1) ["value"] lC:=by
 refine D.ok Dv (λvs H Q E h=>?_) (λbase f bS A outer s H vs Q E hr h=>?_);·obtain⟨d,v,rfl,_⟩:=h;rfl
 obtain⟨d,v,rfl,r,q⟩:=h;refine⟨_,(ag (aT (L2.PW.pt (fE (nM (dB (aJ dU rfl M.dr cM (aa (pv 0) (aa (uV M.KY CI rfl) af))))) (fB (nM (JM E5 E5 aj (aJ dZ rfl M.cH bO (aa (pv 0) af)) (mi M.g_MOST_LETTERS rfl)))))) (ai (aA qV)) aC) (ai (aA (vR (cG ly (pv 0) (gD M.g_KIDS_DUE rfl) rfl) (yX (aJ (lS rfl) rfl M.Pp Kf (aa (eO (N':=["sign"]) (own:=1) (fr:=[]) rfl (fY (N:=["value"]) (sc:=ak g7) rfl rfl rfl (by decide+kernel)) (z9 (pv 0)) (cU (by decide)) (λ_ _ _=>(bb (i:=0) (show List.Nodup (["sign"]:List Str)by decide+kernel) rfl (Or.inl rfl))) (λ_ _ _=>gH) (λ_ _ _=>(cG vz (pv 0) (qo M.g_LETTERS rfl) rfl))) af))))))),?_⟩;try dsimp only[iF,u]
 refine vX ?_;intro _ _;refine⟨_,rfl,_,_,_,_,rfl,r.ty,M5 _ d,_,rfl,?_⟩;refine bL (λc=>bj ?_) (λc=>?_)
 ·have e:iT d=false:=by cases d<;>first|rfl|(simp[aS]at c)
  rw[e]at q;exact q H (aE.refl H)
 ·obtain⟨x,rfl⟩:∃x,d= .str x:=by cases d<;>first|exact⟨_,rfl⟩|(simp[aS]at c)
  obtain⟨rfl,o⟩:=r;have l:iT (.str x)=(decide ((1:Int)<=x.length)&&(decide ((x.length:Int)<=12)&&((ba.lookup x).isNone&&x.cps.toList.all iY))):=rfl;rw[l]at q;have hsz:x.length<=sizeLine:=cw o (by decide);refine⟨_,rfl,x,rfl,hsz,_,_,rfl,rfl,_,rfl,?_⟩;refine bL (λg=>?_) (λg=>⟨_,rfl,bj ?_⟩)
  ·refine⟨_,_,rfl,rfl,_,rfl,?_⟩;refine bL (λa=>?_) (λa=>?_)
   ·have a:decide ((x.length:Int)<=12)=false:=by simpa using a
    rw[a,Bool.false_and,Bool.and_false]at q;exact q H (aE.refl H)
   ·have a:decide ((x.length:Int)<=12)=true:=by simpa using a
    rw[g,a,Bool.true_and,Bool.true_and]at q;refine⟨_,rfl,x,_,_,rfl,rfl,T.tab,_,rfl,?_⟩;rw[T.fQ];refine bL (λb=>?_) (λb=>?_)
    ·have b:(ba.lookup x).isNone=true:=by cases e:ba.lookup x<;>simp[e]at b⊢
     rw[b,Bool.true_and]at q;refine⟨_,rfl,x,rfl,λp n=>eG x.cps.size (λi=>V.bl (iY ((x.cps[i]?).getD 0))) n hsz (λi j hi s2=>⟨hi,?_⟩) λj s2 h2=>⟨zQ04 _,p,x.cps.toList.map iY,rfl,aZ.of (by rw[<-Cy];exact h2),?_⟩⟩;·rintro y k⟨rfl,c,hc,rfl⟩R m;refine⟨_,rfl,_,_,rfl,rfl,?_⟩;have :=m k (aE.refl _);rw[hc]at this;exact this
     ·have e:(x.cps.toList.map iY).all id=x.cps.toList.all iY:=by rw[List.all_map];rfl
      rw[e];exact q j s2
    ·have b:(ba.lookup x).isNone=false:=by cases e:ba.lookup x<;>simp[e]at b⊢
     rw[b,Bool.false_and]at q;exact q H (aE.refl H)
  ·have g:decide ((1:Int)<=x.length)=false:=Bool.eq_false_iff.mpr g;rw[g,Bool.false_and]at q;exact q H (aE.refl H)
noncomputable def fL:Nat->D|0=> .tup [.str "zero"]|n+1=> .tup [.str "next",fL n]
theorem rH:∀n:Nat,dC aS false (fL n)=true|0=>NF|n+1=>MJ (rH n)
theorem vw:∀n:Nat,depth (fL n)=n+1|0=>by simp[fL,depth,aF]|n+1=>by have :=vw n;simp only[fL,depth,aF];omega
theorem uN:∀n:Nat,aD (fL n)=n+1|0=>by simp[fL,aD,aH]|n+1=>by have :=uN n;simp only[fL,aD,aH];omega
def EW:Sp:=λvs H Q _=>∃n:Nat,vs=[.int (n:Nat)]/\n<=1000/\∀(v:V)(H':Hp),aE H H'->Rep H' (fL n) v->Q v H'
theorem gK:aG ["number","thing","count"] ["number"] (ak iL):=⟨rfl,rfl,rfl,by decide+kernel,rfl,by decide+kernel,by decide+kernel⟩
theorem CN(D:Df K mg "count_of" iL ["number"])(M:Mg mg t):bu P w K mg bx "count_of" (1) ["number"] EW:=by
 refine D.ok gK (λvs H Q E h=>?_) (λbase f bS A outer s H vs Q E hr h=>?_);·obtain⟨n,rfl,_⟩:=h;rfl
 obtain⟨n,rfl,hn,q⟩:=h;refine⟨_,(ag (aI (i:=1) gK.nd rfl (cj rfl) (bp (aa aq af))) (ag (dz PassesOwn.never rfl (dP rfl M.fO (aa (pv 0) af)) (bb (i:=2) gK.nd rfl (cj rfl)) (ai (aI (i:=1) gK.nd rfl (cj rfl) (bp (aa aq (aa (pv 1) af)))))) (ai (aA (pv 1))))),?_⟩;try dsimp only[iF,u]
 refine CK ?_;intro _ _ _;refine⟨(gu rfl),λa o=>?_⟩;refine⟨_,rfl,_,rfl,(by show-(2^62)<=((n:Nat):Int);omega),(by show((n:Nat):Int)<2^62;omega),?_⟩;have k:=ao o (.tup [V.str "zero"]);have j:Rep (upd H a (.tup [V.str "zero"])) (fL 0) (.ref a):=⟨a,_,rfl,ah,_,_,rfl,⟨rfl,by decide+kernel⟩,rfl⟩;generalize upd H a (.tup [V.str "zero"])=H0 at k j⊢;let m:Nat->L2.St->Hp->Prop:=(λi d H'=>∃(v:V)(b:Option V),d=[some (.int (n:Nat)),some v,b]/\Rep H' (fL i) v/\aE H H');refine eA n m ?_ ?_ ?_;·exact⟨_,none,rfl,j,k⟩
 ·rintro i d e hi⟨v,b,rfl,c,s1⟩;refine⟨(by show i<((n:Nat):Int).toNat;omega),?_⟩;rintro x r⟨rfl,rfl⟩;refine⟨_,rfl,(gu rfl),λg p=>?_⟩;have l:=ao p (.tup [V.str "next",v]);exact⟨.ref g,_,rfl,⟨g,_,rfl,ah,⟨_,_,rfl,⟨rfl,by decide+kernel⟩,⟨_,_,rfl,c.mono l,rfl⟩⟩⟩,s1.trans l⟩
 ·rintro d e⟨v,b,rfl,c,s1⟩;exact⟨(by show((n:Nat):Int).toNat<=n;omega),_,rfl,q v e s1 c⟩
noncomputable def wy(c:Nat):Bool:=decide (48<=c)&&decide (c<=57)
noncomputable def nA(z:Str):Bool:=decide (z.length<=2)&&(z.cps.toList.all wy&&(match PySem.intText? z with|some n=>decide (Str.ofString (toString n)=z)&&decide (n<=39)|none=>false))
theorem Tr(c:Nat):(!(Builtin.Str.occurrences (Str.ofString "0123456789") ⟨#[c]⟩ 0 (Str.ofString "0123456789").length 1).isEmpty)=wy c:=by rw[StrLaws.found_one,show(Str.ofString "0123456789").cps.toList=[48,49,50,51,52,53,54,55,56,57]by decide+kernel];unfold wy;rw[Bool.eq_iff_iff];simp;omega
theorem Qu:((List.range 10).all λa=>match PySem.intText? ⟨#[48+a]⟩with|some n=>decide (0<=n)&&decide (n<1000)|none=>false)=true:=by decide+kernel
theorem Sz:((List.range 10).all λa=>(List.range 10).all λb=>match PySem.intText? ⟨#[48+a,48+b]⟩with|some n=>decide (0<=n)&&decide (n<1000)|none=>false)=true:=by decide+kernel
theorem EC{z:Str}(h1:1<=z.length)(h2:z.length<=2)(hd:z.cps.toList.all wy=true):∃n:Int,PySem.intText? z=some n/\0<=n/\n<1000:=by
 have hl:=str_len z;have g:z=tx z.cps.toList:=(Wq z).symm;generalize z.cps.toList=l at hl hd g;have f:∀c,wy c=true->∃a,a<10/\c=48+a:=λc h=>by unfold wy at h;simp at h;exact⟨c-48,by omega,by omega⟩
 match l,hl,hd with
  |[c],hl,hd=>obtain⟨a,ha,rfl⟩:=f c (by simpa using hd);have :=List.all_eq_true.mp Qu a (List.mem_range.mpr ha);rw[g];show∃n:Int,PySem.intText? ⟨#[48+a]⟩=some n/\_;cases e:PySem.intText? ⟨#[48+a]⟩with|none=>rw[e]at this;cases this|some n=>rw[e]at this;simp at this;exact⟨n,rfl,this.1,this.2⟩
  |[c,d],hl,hd=>
   have hd:wy c=true/\wy d=true:=by simpa using hd
   obtain⟨a,ha,rfl⟩:=f c hd.1;obtain⟨b,hb,rfl⟩:=f d hd.2;have :=List.all_eq_true.mp (List.all_eq_true.mp Sz a (List.mem_range.mpr ha)) b (List.mem_range.mpr hb);rw[g];show∃n:Int,PySem.intText? ⟨#[48+a,48+b]⟩=some n/\_;cases e:PySem.intText? ⟨#[48+a,48+b]⟩with|none=>rw[e]at this;cases this|some n=>rw[e]at this;simp at this;exact⟨n,rfl,this.1,this.2⟩
  |[],hl,_=>simp at hl;omega
  |_::_::_::_,hl,_=>simp at hl;omega
theorem Ht(x:Str):((List.range x.cps.size).map λi=>V.bl (wy ((x.cps[i]?).getD 0)))=(x.cps.toList.map wy).map V.bl:=by
 apply List.ext_getElem?;intro i;by_cases h:i<x.cps.size;·simp[h]
 ·simp[h]
def Oe:Sp:=λvs H Q _=>∃z:Str,vs=[.str z]/\1<=z.length/\z.length<=100000/\∀H',aE H H'->Q (.bl (nA z)) H'
theorem xm:aG ["word"] ["word"] (ak fi):=⟨rfl,rfl,rfl,by decide+kernel,rfl,by decide+kernel,by decide+kernel⟩
theorem Ci(D:Df K mg "is_figure" fi ["word"])(M:Mg mg t):bu P w K mg bx "is_figure" (1) ["word"] Oe:=by
 refine D.ok xm (λvs H Q E h=>?_) (λbase f bS A outer s H vs Q E hr h=>?_);·obtain⟨z,rfl,_⟩:=h;rfl
 obtain⟨z,rfl,h1,h2,q⟩:=h;have hsz:z.length<=sizeLine:=by rw[sizeLine_eq];omega
 refine⟨_,(ag (aT (L2.PW.pt (fE (aw nZ (aJ dZ rfl M.cH bO (aa (pv 0) af)) aj (az _)) (fB (nM (dB (aJ (lS rfl) rfl M.Pp Kf (aa (eO (N':=["sign"]) (own:=1) (fr:=[]) rfl (fY (N:=["word"]) (sc:=ak fi) rfl rfl rfl (by decide+kernel)) (z9 (pv 0)) (cU (by decide)) (λ_ _ _=>(bb (i:=0) (show List.Nodup (["sign"]:List Str)by decide+kernel) rfl (Or.inl rfl))) (λ_ _ _=>gH) (λ_ _ _=>(cG vz (pv 0) (qo M.g_FIGURES rfl) rfl))) af))))))) (ai (aA qV)) aC) (ai (aA (vR (cG aY (bY vb rfl M.KY CI (aa (bY nH rfl M.BI tZ (aa (pv 0) af)) af)) (pv 0) (az _)) (yX (cG E5 (bY nH rfl M.BI tZ (aa (pv 0) af)) (mi M.g_MOST_FIGURE rfl) (az _))))))),?_⟩;try dsimp only[iF,r]
 refine vX ?_;intro _ _;refine⟨_,rfl,z,rfl,hsz,_,_,rfl,rfl,_,rfl,bL (λc=>bj ?_) (λc=>?_)⟩
 ·have c:(2:Int)<((z.length:Nat):Int):=of_decide_eq_true c;have e:nA z=false:=by unfold nA;rw[decide_eq_false (by omega),Bool.false_and]
  have :=q H (aE.refl H);rw[e]at this;exact this
 have c:¬(2:Int)<((z.length:Nat):Int):=of_decide_eq_false (Bool.eq_false_iff.mpr c);have g:nA z=(z.cps.toList.all wy&&(match PySem.intText? z with|some n=>decide (Str.ofString (toString n)=z)&&decide (n<=39)|none=>false)):=by unfold nA;rw[decide_eq_true (by omega),Bool.true_and]
 rw[g]at q;refine⟨_,rfl,z,rfl,λp m=>eG z.cps.size (λi=>V.bl (wy ((z.cps[i]?).getD 0))) m hsz (λi a hi s2=>⟨hi,?_⟩) λa s2 h2=>⟨zQ04 _,p,z.cps.toList.map wy,rfl,aZ.of (by rw[<-Ht];exact h2),?_⟩⟩;·rintro x d⟨rfl,c,hc,rfl⟩R l;refine⟨_,rfl,_,_,rfl,rfl,?_⟩;have :=l d (aE.refl _);rw[hc]at this;rw[Tr];exact this
 ·have e:(z.cps.toList.map wy).all id=z.cps.toList.all wy:=by rw[List.all_map];rfl
  rw[e];refine⟨_,rfl,?_⟩;cases hd:z.cps.toList.all wy with
   |false=>have :=q a s2;rw[hd,Bool.false_and]at this;exact bj this
   |true=>
    obtain⟨n,hn,u,v⟩:=EC h1 (by omega) hd;have :=q a s2;rw[hd,Bool.true_and,hn]at this;have this:Q (V.bl (decide (Str.ofString (toString n)=z)&&decide (n<=39))) a:=this;have o:n.natAbs.log2<1920:=by
     have :n.natAbs<2^10:=by omega
     have :=Nat.log2_lt (n:=n.natAbs) (k:=10);by_cases b:n.natAbs=0;·rw[b];decide
     ·have :=(Nat.log2_lt b).mpr ‹n.natAbs<2^10›;omega
    refine bR ⟨_,rfl,z,n,rfl,hn,(by omega),n,rfl,o,_,rfl,rfl,_,rfl,?_⟩;have j:decide (V.str (Str.ofString (toString n))=V.str z)=decide (Str.ofString (toString n)=z):=by
     by_cases h:Str.ofString (toString n)=z;·rw[h];simp
     ·rw[decide_eq_false h];exact decide_eq_false λy=>h (by injection y)
    rw[j];cases h3:decide (Str.ofString (toString n)=z)with|false=>rw[h3,Bool.false_and]at this;exact bR this|true=>rw[h3,Bool.true_and]at this;exact bj ⟨_,rfl,z,n,rfl,hn,(by omega),_,_,rfl,rfl,this⟩
theorem IG{z:Str}(h1:1<=z.length)(h:nA z=true):∃n:Nat,n<=39/\PySem.intText? z=some ((n:Nat):Int)/\z=Str.ofString (toString ((n:Nat):Int))/\z.length<=2:=by unfold nA at h;rw[bF,bF]at h;obtain⟨n,hn,a,b⟩:=EC h1 (of_decide_eq_true h.1) h.2.1;have h3:=h.2.2;rw[hn]at h3;have h3:(decide (Str.ofString (toString n)=z)&&decide (n<=39))=true:=h3;rw[bF]at h3;obtain⟨k,rfl⟩:∃k:Nat,n=(k:Nat):=⟨n.toNat,by omega⟩;exact⟨k,by have :=of_decide_eq_true h3.2;omega,hn,(of_decide_eq_true h3.1).symm,of_decide_eq_true h.1⟩
theorem CJ:aG ["word","forms","names"] ["word","forms","names"] (ak jM):=⟨rfl,rfl,rfl,by decide+kernel,rfl,by decide+kernel,by decide+kernel⟩
end K57
end
section
namespace L3
open PySem PySem.Spec PyProof.Rows L2 KM
end L3
end
section
namespace L3
open PySem PySem.Spec PyProof.Rows L2
section
variable{prog:Program}{w:World}{A:Around}{E:Value->Shared->Prop}{s:Shared}
theorem Aj{it l:Addr}{Q:Option Value->Shared->Prop}(hb:HB s.heap A)(c:s.heap.IsRevIter it l (-1))(d:∀h',Heap.ExtBut it s.heap h'->Q none {s with heap:=h'}):wpAny (model prog w) A (pyNext (.ref it)) Q E s:=by obtain⟨o,ho,hc,hd⟩:=id c;unfold pyNext;refine zQ00 (wpAny_attempt (wpAny_callSpecial?_slot (name:=Str.ofString "__next__") c.typeIs F.slot_lri_next (gP F.slot_lri_next c.typeIs F.entry_lri_next ?_ (F.args_lri_next_1 _))));unfold Builtin.«list_reverseiterator.__next__»;refine zQ00 (wpAny_of_eq (a:=(Value.ref it,[])) rfl ?_);dsimp only;refine zQ00 (dD ho hd (x:=rawInt (-1)) rfl ?_);show wpAny _ _ (if(-1:Int)<0 then _ else _) _ _ s;rw[if_pos (by decide)];refine zQ00 (wpAny_rule ?_);refine zQ00 ?_;exact eI (A:=A.in1) hb λh1 e k he=>zQ00 (jI he (zQ02 (d h1 λb o _ h=>k b o h)))
end
noncomputable def Itv(K:PySem.W.Frag)(a:Addr)(n:Nat):It:=⟨λi H=>i<n/\∃xs,aZ K H a xs/\xs.length=n,λi H x H'=>H'=H/\∀xs,aZ K H a xs->xs[n-1-i]?=some x,λi H=>i=n⟩
theorem J8{P:Program}{w:World}{K:PySem.W.Frag}{tg:Expr}(a it:Addr)(n:Nat):Turn P w K tg (Itv K a n) [it] it (λi h=>h.IsRevIter it a ((n:Int)-1-(i:Int)))where
 mem:=by simp
 obj:=λi h st b hb=>by
  have e:b=it:=by simpa using hb
  subst e;obtain⟨o,e,c,d⟩:=st;exact⟨o,e,λv z=>by rw[d]at z;cases z⟩
 keep:=λi h h' st k=>st.at λo e=>k it (by simp) o e;item:=by
  intro X t hw r hc i pins s σ H E I f st g;subst t hw r;obtain⟨hi,xs,hq,hn⟩:=g;obtain⟨its,J,p,L⟩:=I.list hq;have y:xs[n-1-i]?=some (xs[n-1-i]'(by lia)):=zQ03 (by lia);obtain⟨u,D,G⟩:=J.get y;obtain⟨j,f1,f2,l,m,q⟩:=f it (by simp);have e:(n:Int)-1-(i:Int)=((n-1-i:Nat):Int):=by lia
  have st:s.heap.IsRevIter it a ((n-1-i:Nat):Int):=by rw[<-e];exact st
  refine wpAny_pyNext_rev_item st p.isList (x:=u) (by simpa using D) λh' mX sb=>?_;have A:Inv X pins σ H {s with heap:=h'}:=I.turned (t':=s.toks) (λb o hb e=>(sb.2 b hb).trans e) j f1 l m q;have B:((n-1-i:Nat):Int)-1=(n:Int)-1-((i+1:Nat):Int):=by lia
  rw[B]at mX;obtain⟨o,e,c,d⟩:=id mX;exact⟨u,rfl,Bf (s:={s with heap:=h'}) e c d (by decide) ⟨_,H,A,G,⟨rfl,λys F=>by rw[I.k9 F hq];exact y⟩,mX,λb hb=>(f b hb).1⟩⟩
 done:=by
  intro X t hw r hc i pins s σ H E I f st g;subst t hw r;obtain⟨j,f1,f2,l,m,q⟩:=f it (by simp);have g:i=n:=g;have e:(n:Int)-1-(i:Int)=-1:=by lia
  have st:s.heap.IsRevIter it a (-1):=by rw[<-e];exact st
  exact Aj (I.hb hc) st λh' C=>⟨rfl,I.turned (t':=s.toks) (λb o hb e=>C b o hb e) j f1 l m q⟩
 self:=λ_ _ _ _ _ st h=>wpAny_pyIter_revIter st h
noncomputable def Z1(K:PySem.W.Frag)(c:TA):TI:=λσ H R=>c σ H λvs b=>∃a xs,vs=[.ref a]/\aZ K b a xs/\R (Itv K a xs.length) b
theorem Td{X:Cx}{tg:Expr}{a:Expr}{g:TA}{p f:Pos}(l:Gl X "reversed")(hm:X.mg "reversed"=none)(ha:PA X [a] g)(m:starEach [a] X.env=[(false,eval a X.env)]:=by rfl):PI X tg (.Call (.Name "reversed" p) [a] [] f) (Z1 X.K g):=by
 intro pins s σ H R I h;refine Call_ (gS I l hm boot_reversed (PyProof.Rows.callWith_type1 (bE (ha f pins s σ H _ I h) λus s1⟨vs,j,c,t,q1⟩=>?_) (by rw[m];rfl) (by rfl)));obtain⟨a1,xs,e,n,q⟩:=q1;subst e;obtain⟨w,rfl,u⟩:=Vals.one t;cases u;obtain⟨d,v,r,_⟩:=c.list n;refine call_reversed_list r.isList ?_;have k:((d.toArray.size:Nat):Int)-1=((xs.length:Nat):Int)-1-((0:Nat):Int):=by rw[cC,<-v.length];lia
 have i:({s1 with heap:=s1.heap.push (revObj a1 (((d.toArray.size:Nat):Int)-1))}:Shared).heap.IsRevIter s1.heap.objs.size a1 (((xs.length:Nat):Int)-1-((0:Nat):Int)):=by rw[<-k];exact⟨_,zQ12 _ rfl,rfl,rfl⟩
 refine wpAny_pyIter_revIter i ?_;refine⟨s1.heap.objs.size,[s1.heap.objs.size],_,_,j,rfl,c.kept (t':=s1.toks) λb o e=>zQ01 _ e,J8 a1 _ xs.length,i,λb hb=>?_,q⟩;have e:b=s1.heap.objs.size:=by simpa using hb
 subst e;exact c.GP (zQ04 _) (c.bT.fresh (zQ04 _))
theorem kj(k:Str):∀{vs:List Value}{ns:List Str},StrsAre vs ns->∀(j:Nat)(h1:j<vs.length)(h2:j<ns.length),isStrOf k vs[j]=(ns[j]==k)|_,_, .cons n t _,0,_,_=>rfl|_,_, .cons n t r,j+1,h1,h2=>kj k r j (Nat.lt_of_succ_lt_succ h1) (Nat.lt_of_succ_lt_succ h2)
theorem q_{k:Str}:∀{ns:List Str}{j:Nat},j<ns.idxOf k->∀(h2:j<ns.length),(ns[j]==k)=false
 |n::r,0,h,_=>by
  by_cases e:n=k;·subst e;simp at h
  ·simpa using e
 |n::r,j+1,h,h2=>by
  by_cases e:n=k;·subst e;simp at h
  ·have hb:(n==k)=false:=by simpa using e
   have h':j<r.idxOf k:=by rw[List.idxOf_cons,hb]at h;exact Nat.lt_of_succ_lt_succ h
   exact q_ h' (Nat.lt_of_succ_lt_succ h2)
noncomputable def M_(K:PySem.W.Frag):V->List V->Hp->VK->Prop:=λx vs H Q=>∃(l:Addr)(ys:List Str)(y:Str),x= .ref l/\vs=[.str y]/\aZ K H l (ys.map V.str)/\y∈ys/\ys.length<=100000/\Q (.int (ys.idxOf y:Nat)) H
theorem Gz{X:Cx}:Tv X "list.index" (M_ X.K):=by
 intro pins s σ H x vs v us Q I f e h;obtain⟨l,ys,y,rfl,rfl,hq,c,hn,q⟩:=h;cases f;obtain⟨u,rfl,d⟩:=e.one;obtain⟨tk,rfl⟩:=(show∃t,u=Value.str y t from d);obtain⟨its,r,pl,a⟩:=I.list hq;have hi:=uc r;obtain⟨⟨cls,dd,data,sl⟩,ho,hc,n,hd⟩:=id pl.isList;simp only at hc hd;subst hc hd;have hlen:its.length=ys.length:=by rw[<-r.length,bD]
 have hj:ys.idxOf y<ys.length:=List.idxOf_lt_length_iff.mpr c;refine call_meets PySem.F.slot_list_index ⟨_,ho,rfl⟩ PySem.F.entry_list_index (PySem.F.args_list_index_2 _ _) (SeqAt.list_indexAt l its.toArray n dd sl (.str y tk) (isStrOf y) (ys.idxOf y) (by simpa[hlen]using hj) (by lia) ?_ ?_) ⟨ho,λz a=>(eq_isStrOf y tk hi z (by simpa using a)).at _ _,⟨.int (ys.idxOf y:Nat),H,I.tok _,⟨_,rfl⟩,q⟩⟩;·show isStrOf y its[ys.idxOf y]=true;rw[kj y hi _ (by lia) hj];simpa using List.getElem_idxOf hj
 ·intro j b hlt;show isStrOf y its[j]=false;rw[kj y hi j (by simpa using b) (by lia)];exact q_ hlt _
end L3
end
section
namespace K57
open PySem L2 L3 KM PyProof.Rows
seal L2.PE L2.PS L2.kM L2.PT L2.PW L2.PA L2.PG L2.BA L2.PI L2.PC L2.PO L2.G0 L2.PK L3.Bc L3.J9 L3.LC L3.lH L3.Ui
variable{P:Program}{w:World}{K:PySem.W.Frag}{mg:Str->Option Value}{base:Heap}{t:Aq}
structure Fo where
 word:Str
 name:Option Str
 i_:List Str
 parts:List D
noncomputable def Uw:Option Str->V|none=> .bA|some z=> .str z
noncomputable def rq(f:Fo):Bool:=f.name.isSome&&decide (dw f.word= .int (f.parts.length:Nat))
def VZ(K:PySem.W.Frag)(C:Addr):Sp:=λvs H Q _=>∃(x p:Addr)(w:Str)(n:Option Str)(ds ps:List V),vs=[.ref x]/\Fm K C H x (.str w) (Uw n) ds p ps/\(n.isSome=true->∃i:Int,KTD.datumAt w BO=some (.int i))/\Q (.bl (n.isSome&&decide (dw w= .int (ps.length:Nat)))) H
theorem kA:aG ["self"] ["self"] (ak bh):=⟨rfl,rfl,rfl,by decide+kernel,rfl,by decide+kernel,by decide+kernel⟩
theorem c_Form_binds_here(D:Dm K t.Form "binds_here" "Form.binds_here" bh ["self"])(M:Mg mg t)(aK:oO K t.Form)(B:ic K t.de BO):jR P w K mg bx t.Form "binds_here" (1) ["self"] (VZ K t.Form):=by
 refine D.ok kA (λvs H Q E h=>?_) (λbase f bS A outer s H vs Q E hr h=>?_);·obtain⟨x,p,w,n,ds,ps,rfl,_⟩:=h;rfl
 obtain⟨x,p,w,n,ds,ps,rfl,F,hb,q⟩:=h;obtain⟨dx,d,a,hd⟩:=F.obj;refine⟨_,(ai (aA (vR (cG E3 (eL (pv 0) rfl) ni (az _)) (yX (cG aY (J1 (gD M.g_BINDER_OVER rfl) (eL (pv 0) rfl) (λ_ _=>rfl)) (aJ aM rfl M.cH bO (aa (eL (pv 0) rfl) af)) (az _)))))),?_⟩;try dsimp only[iF,b]
 refine⟨_,rfl,x,t.Form,dx,_,_,rfl,a,aK.cls,aK.name,rfl,rfl,?_⟩;cases n with
  |none=>exact⟨_,rfl,bR q⟩
  |some z=>
   obtain⟨i,hi⟩:=hb rfl;refine⟨_,rfl,bj ?_⟩;refine⟨_,rfl,x,t.Form,dx,_,_,rfl,a,aK.cls,aK.word,rfl,_,_,w,_,rfl,rfl,B,hi,_,rfl,x,t.Form,dx,_,_,rfl,a,aK.cls,aK.parts,rfl,p,_,rfl, .inl (aZ.of F.parts),rfl,?_⟩;have e:dw w= .int i:=by unfold dw;rw[hi];rfl
   rw[e]at q;exact q
def BF(K:PySem.W.Frag)(C N:Addr):Sp:=λvs H Q E=>∃(x p:Addr)(w n:V)(ds ps:List V),vs=[.ref x]/\Fm K C H x w n ds p ps/\ps.length<=100/\(ps.length≠ds.length->E (.ref N) none H)/\(ps.length=ds.length->∀(q:Addr)(H':Hp),H' q=some (.tup (w::ps))->aE H H'->Q (.ref q) H')
theorem tL:aG ["self"] ["self"] (ak bP):=⟨rfl,rfl,rfl,by decide+kernel,rfl,by decide+kernel,by decide+kernel⟩
theorem c_Form_closed(D:Dm K t.Form "closed" "Form.closed" bP ["self"])(M:Mg mg t)(aK:oO K t.Form)(k:tJ K t.bc)(o:jR P w K mg bx t.Form "is_full" (1) ["self"] (vN K t.Form)):jR P w K mg (gO P w) t.Form "closed" (2) ["self"] (BF K t.Form t.bc):=by
 refine D.LY tL (λvs H Q E h=>?_) (λbase f bS A outer s H vs Q E hr h=>?_);·obtain⟨x,p,w,n,ds,ps,rfl,_⟩:=h;rfl
 obtain⟨x,p,w,n,ds,ps,rfl,F,hl,r,q⟩:=h;obtain⟨dx,d,g,hd⟩:=id F.obj;refine⟨_,(ag (aT (nM (dB (sL o aK.cls hr.m aQ (pv 0)))) (ai (dH (G:=(λH'=>E (.ref t.bc) none H')) k M.g_NoText (aa aq af) (λpins σ H s e h' I m q=>eP I m q))) aC) (ai (aA (aN EO (bp (aa (eL (pv 0) rfl) af)) (bY j7 rfl M.iB gk (aa (eL (pv 0) rfl) af)))))),?_⟩;try dsimp only[iF,z]
 refine vX ?_;intro _ _;have B:(decide (ps.length=ds.length))=true↔ps.length=ds.length:=decide_eq_true_iff;refine⟨_,rfl,x,dx,_,rfl,g,rfl,x,p,w,n,ds,ps,rfl,F,_,rfl,?_⟩;by_cases c:ps.length=ds.length;·rw[decide_eq_true c];refine bR ⟨_,rfl,x,t.Form,dx,_,_,rfl,g,aK.cls,aK.word,rfl,(gu rfl),λa u=>?_⟩;have b:=ao u (.tup [w]);have i:(upd H a (.tup [w])) a=some (.tup [w]):=ah;generalize upd H a (.tup [w])=y at b i⊢;refine⟨_,rfl,x,t.Form,dx,_,_,rfl,b _ _ g,aK.cls,aK.parts,rfl,p,_,rfl, .inl ⟨aZ.of (b _ _ F.parts),λl hl=>?_⟩⟩;have j:=ao hl (.tup ps);exact⟨a,l,[w],ps,rfl,rfl,j _ _ i,ah,(by rw[sizeLine_eq,List.length_singleton];omega),λv H' s h'=>q c v H' h' (b.trans (j.trans s))⟩
 ·rw[decide_eq_false c];exact bj ⟨by decide,r c⟩
noncomputable def vS:V->Str| .str x=>x|_=>""
noncomputable def bN(x:Str):List Str:=((ba.lookup x).getD []).map vS
theorem LW:(ba.all λr=>r.2.all λv=>decide (V.str (vS v)=v))=true:=by decide+kernel
theorem NC(x:Str):(bN x).map V.str=(ba.lookup x).getD []:=by
 have c:∀a:List (Str×List V),(a.all λr=>r.2.all λv=>decide (V.str (vS v)=v))=true->(((a.lookup x).getD []).map vS).map V.str=(a.lookup x).getD []:=λa=>by
  induction a with
   |nil=>intro _;rfl
   |cons r a b=>
    intro h;rw[List.all_cons,bF]at h;rw[jk];split
    ·show(r.2.map vS).map V.str=r.2;rw[List.map_map];conv=>rhs;rw[<-List.map_id r.2]
     exact List.map_congr_left λv hv=>of_decide_eq_true (List.all_eq_true.mp h.1 v hv)
    ·exact b h.2
 exact c ba LW
theorem B1(x:Str):(bN x).length<=4:=by
 have :(ba.all λr=>decide (r.2.length<=4))=true:=by decide+kernel
 unfold bN;rw[bD];cases e:ba.lookup x with
  |none=>exact zQ25 _
  |some ds=>
   have h:∀a:List (Str×List V),a.lookup x=some ds->∃r∈a,r.2=ds:=λa=>by
    induction a with
     |nil=>intro h;cases h
     |cons r a b=>
      intro h;rw[jk]at h;split at h;·exact⟨r,bI,Option.some.inj h⟩
      ·obtain⟨q,h1,h2⟩:=b h;exact⟨q,ck _ h1,h2⟩
   obtain⟨r,h1,rfl⟩:=h ba e;exact of_decide_eq_true (List.all_eq_true.mp this r h1)
noncomputable def nK(a:List Str):Str:=a.headD ""
noncomputable def dS(a:List Str):Option Fo:=if bN (nK a)=[]then none else if fQ (nK a) BO=false then some ⟨nK a,none,bN (nK a),[]⟩else match a with|[_,n]=>if iT (.str n)=true then some ⟨nK a,some n,bN (nK a),[]⟩else none|_=>none
theorem Fu{C:Addr}{H:Hp}{w n d:V}{Q:VK}{E:XK}(k:∀(x dx p:Addr)(H':Hp),aE H H'->H x=none->H p=none->x≠p->H' x=some (.ins C dx (Y6 w n d p))->H' p=some (.lst [])->Q (.ref x) H'):∀(x dx:Addr){o:HO},H x=none->H dx=none->x≠dx->xT C [.ref x,w,n,d] (upd (upd H dx o) x (.ins C dx [])) (λr H'=>r= .bA/\Q (.ref x) H') E:=λx dx o f c s=>⟨x,dx,w,n,d,rfl,ah,λp j a i l m keep=>⟨rfl,k x dx p j (λb ob h=>by have g:b≠x:=ay h f;have q:b≠dx:=ay h c;exact keep b ob g (by rw[aP g,aP q];exact h)) f (by
 rw[aP i]at a;by_cases e:p=dx;·rw[e];exact c
 ·rw[aP e]at a;exact a) i.symm m l⟩⟩
theorem Q1{a:Addr}{as:List Addr}(T:KD K a ba as)(x:Str){H:Hp}{c:Addr}(h:H c=some (.tup [])):∃d:Addr,(KTD.datumAt x ((ba.zip as).map λp=>(p.1.1,V.ref p.2))).getD (.ref c)= .ref d/\cu K H d ((ba.lookup x).getD []):=by
 cases e:ba.lookup x with
  |some ds=>obtain⟨b,h1,h2⟩:=T.some e;exact⟨b,by rw[h1];rfl,h2 H⟩
  |none=>
   rcases jG (x:=x) (λp=>V.ref p.2) ba as T.len with⟨r,b,h1,h2,h3,h4⟩|⟨_,h2⟩;·rw[e]at h3;cases h3
   ·exact⟨c,by rw[h2];rfl,cu.of h⟩
theorem pick{c:Bool}{T1 T2:VK->Prop}{G:VK}{v:V}{H:Hp}(h1:c=true->∀R:VK,R v H->T1 R)(h2:c=false->∀R:VK,R v H->T2 R)(h:G v H):if c=true then T1 G else T2 G:=by cases c with|true=>exact bj (h1 rfl G h)|false=>exact bR (h2 rfl G h)
def B_(K:PySem.W.Frag)(C N:Addr):Sp:=λvs H Q E=>∃(a:Addr)(b:List Str),vs=[.ref a]/\H a=some (.lst (b.map V.str))/\b.length<=2/\(∀z∈b,z.length<=1000)/\(dS b=none->∀H',aE H H'->E (.ref N) none H')/\∀fo:Fo,dS b=some fo->∀(x p:Addr)(H':Hp),aE H H'->H x=none->H p=none->x≠p->Fm K C H' x (.str fo.word) (Uw fo.name) (fo.i_.map V.str) p []->Q (.ref x) H'
theorem kC:aG ["head","word","due"] ["head"] (ak jJ):=⟨rfl,rfl,rfl,by decide+kernel,rfl,by decide+kernel,by decide+kernel⟩
theorem HE(D:Df K mg "form_of" jJ ["head"])(M:Mg mg t)(Y:tJ K t.bc){as:List Addr}(T:KD K t.jc ba as)(B:ic K t.de BO)(gZ:bu P w K mg bx "is_name" (1) ["value"] lC)(Z:L5 P w K mg "Form" t.Form 1 ["self","word","name","due"] (xT t.Form)):bu P w K mg (gO P w) "form_of" (3) ["head"] (B_ K t.Form t.bc):=by
 refine D.LY kC (λvs H Q E h=>?_) (λbase f bS A outer s H vs Q E hr h=>?_);·obtain⟨a,b,rfl,_⟩:=h;rfl
 obtain⟨a,b,rfl,ha,hl,S,u,q⟩:=h;refine⟨_,(ag (aI (i:=1) kC.nd rfl (cj rfl) (jC (aw nZ (aJ aM rfl M.cH bO (aa (pv 0) af)) aj (az _)) (aX bJ (pv 0) aj (λ_ _=>rfl)) aq)) (ag (aI (i:=2) kC.nd rfl (cj rfl) (Jw (gD M.g_KIDS_DUE rfl) (pv 1) (bp af) ⟨rfl,rfl,rfl,rfl⟩)) (ag (aT (aw aY (aJ aM rfl M.cH bO (aa (pv 2) af)) aj (az _)) (ai (dH (G:=(λH'=>E (.ref t.bc) none H')) Y M.g_NoText (aa aq af) (λpins σ H s e h' I m q=>eP I m q))) aC) (ag (aT (aw ly (pv 1) (gD M.g_BINDER_OVER rfl) rfl) (ai (aA (Du Z hr.m rfl aQ (aa (pv 1) (aa ni (aa (pv 2) af)))))) aC) (ag (aT (L2.PW.pt (fE (aw BJ (aJ aM rfl M.cH bO (aa (pv 0) af)) aj (az _)) (fB (nM (dB (aO gZ hr.m rfl aQ (aa (aX bJ (pv 0) aj (λ_ _=>rfl)) af))))))) (ai (dH (G:=(λH'=>E (.ref t.bc) none H')) Y M.g_NoText (aa aq af) (λpins σ H s e h' I m q=>eP I m q))) aC) (ai (aA (Du Z hr.m rfl aQ (aa (pv 1) (aa (aX bJ (pv 0) aj (λ_ _=>rfl)) (aa (pv 2) af))))))))))),?_⟩;try dsimp only[iF,cJ]
 refine Vn ?_;intro _ _ _ _ _ _;refine⟨_,rfl,a,_,rfl, .inl (aZ.of ha),_,_,rfl,rfl,_,rfl,?_⟩;refine pick (T1:=λG=>Rw (XT K) (Dh 0) (tC (.int 0)) _ H G) (T2:=λG=>tC (.str "") _ H G) (v:= .str (nK b)) (H:=H) (λc R h=>?_) (λc R h=>?_) ?_;·cases b with|nil=>cases c|cons z r=>exact⟨_,rfl,a,_,_,_,rfl,rfl,aZ.of ha,aR (j:=0) rfl,h⟩
 ·cases b with|nil=>exact h|cons z r=>exact absurd c (by simp)
 refine⟨_,_,rfl,T.tab,_,rfl,(gu rfl),λX pj=>⟨_,rfl,?_⟩⟩;have k:=ao pj (.tup []);obtain⟨d,hd,hq⟩:=Q1 T (nK b) (show(upd H X (.tup [])) X=some (.tup [])from ah);rw[hd,<-NC]at*;generalize upd H X (.tup [])=C at k hq⊢;clear pj;have F:=k _ _ ha;refine⟨_,rfl,d,_,rfl, .inr hq,rfl,_,rfl,?_⟩;have el:decide (V.int (((bN (nK b)).map V.str).length:Nat)=V.int 0)=decide (bN (nK b)=[]):=by generalize bN (nK b)=l;cases l with|nil=>rfl|cons a l=>exact(decide_eq_false λz=>by have z:=V.int.inj z;simp only[bD,b_]at z;omega).trans (decide_eq_false (by simp)).symm
 rw[el];have fin:∀(fo:Fo)(nv:V),dS b=some fo->fo.word=nK b->fo.i_=bN (nK b)->Uw fo.name=nv->∀(x dx p:Addr)(H':Hp),aE C H'->C x=none->C p=none->x≠p->H' x=some (.ins t.Form dx (Y6 (.str (nK b)) nv (.ref d) p))->H' p=some (.lst [])->Q (.ref x) H':=by
  intro fo nv e1 e2 e3 e4 x dx p H' s y L W O N;refine q fo e1 x p H' (k.trans s) (k.free y) (k.free L) W ⟨⟨dx,d,by rw[e2,e4];exact O,?_⟩,N⟩;rw[e3];rcases hq with h|h;·exact .inl (h.imp (λh=>s _ _ h) λ⟨o,h⟩=>⟨o,s _ _ h⟩)
  ·exact .inr h
 by_cases g:bN (nK b)=[];·rw[decide_eq_true g];exact bj ⟨by decide,u (by unfold dS;rw[if_pos g]) C k⟩
 rw[decide_eq_false g];refine bR ⟨_,rfl,_,_,_,rfl,rfl,B,_,rfl,?_⟩;cases hb:fQ (nK b) BO with
  |false=>refine bj ⟨_,rfl,_,rfl,λx dx y J U=>Fu (fin ⟨nK b,none,bN (nK b),[]⟩ .bA (by unfold dS;rw[if_neg g,if_pos hb]) rfl rfl rfl) x dx y J U.symm⟩
  |true=>
   refine bR ?_;refine⟨_,rfl,a,_,rfl, .inl (aZ.of F),_,_,rfl,rfl,_,rfl,?_⟩;match b,hl,S,F,u,fin,g,hb with
    |[],_,_,_,u,_,g,hb=>exact bj (bj ⟨by decide,u (by unfold dS;rw[if_neg g,if_neg (by rw[hb];decide)]) C k⟩)
    |[z],_,_,_,u,_,g,hb=>exact bj (bj ⟨by decide,u (by unfold dS;rw[if_neg g,if_neg (by rw[hb];decide)]) C k⟩)
    |[z,n],_,S,F,u,fin,g,hb=>refine bR ⟨_,rfl,a,_,_,_,rfl,rfl,aZ.of F,aR (j:=1) rfl, .str n, .str n,rfl,⟨rfl,S n (by simp)⟩,λH2 s2=>⟨_,rfl,?_⟩⟩;cases hn:iT (.str n)with|false=>exact bj ⟨by decide,u (by unfold dS;rw[if_neg g,if_neg (by rw[hb];decide)];show(if iT (.str n)=true then _ else _)=none;rw[hn];rfl) H2 (k.trans s2)⟩|true=>refine bR ⟨_,rfl,_,rfl,a,_,_,_,rfl,rfl,aZ.of (s2 _ _ F),aR (j:=1) rfl,_,rfl,λx dx y J U=>Fu (λx dx p H' s y L W O N=>fin ⟨nK [z,n],some n,bN (nK [z,n]),[]⟩ (.str n) (by unfold dS;rw[if_neg g,if_neg (by rw[hb];decide)];show(if iT (.str n)=true then _ else _)=_;rw[hn];rfl) rfl rfl rfl x dx p H' (s2.trans s) (s2.free y) (s2.free L) W O N) x dx y J U.symm⟩
    |_::_::_::_,hl,_,_,_,_,_,_=>simp at hl
noncomputable def vE(z:Str)(names:List Str):List Fo->Nat->D|[],b=>if z∈names then .tup [.str "var", .int ((b+names.idxOf z:Nat):Int)]else .tup [.str "name", .str z]|f::r,b=>if rq f=true then(if f.name=some z then .tup [.str "var", .int (b:Nat)]else vE z names r (b+1))else vE z names r b
def MO(K:PySem.W.Frag)(C:Addr)(H:Hp)(x p:Addr)(f:Fo):Prop:=(∃ps,Fm K C H x (.str f.word) (Uw f.name) (f.i_.map V.str) p ps/\bK H f.parts ps)/\(f.name.isSome=true->∃i:Int,KTD.datumAt f.word BO=some (.int i))
def Ee(K:PySem.W.Frag)(C:Addr):Sp:=λvs H Q E=>∃(a b:Addr)(z:Str)(st:List (Addr×Addr×Fo))(names:List Str),vs=[.str z, .ref a, .ref b]/\H a=some (.lst ((st.map λq=>V.ref q.1).reverse))/\st.length<=100000/\(∀q∈st,MO K C H q.1 q.2.1 q.2.2)/\aZ K H b (names.map V.str)/\names.length<=1000/\z.length<=1000/\∀(v:V)(H':Hp),aE H H'->Rep H' (vE z names (st.map (·.2.2)) 0) v->Q v H'
theorem d_:aG ["word","forms","names","binders","form"] ["word","forms","names"] (ak eU):=⟨rfl,rfl,rfl,by decide+kernel,rfl,by decide+kernel,by decide+kernel⟩
theorem uF(D:Df K mg "thing_named" eU ["word","forms","names"])(M:Mg mg t)(aK:oO K t.Form)(B:jR P w K mg bx t.Form "binds_here" (1) ["self"] (VZ K t.Form)):bu P w K mg bx "thing_named" (2) ["word","forms","names"] (Ee K t.Form):=by
 refine D.ok d_ (λvs H Q E h=>?_) (λbase f bS A outer s H vs Q E hr h=>?_);·obtain⟨a,b,z,st,names,rfl,_⟩:=h;rfl
 obtain⟨a,b,z,st,names,rfl,ha,wI,J,hb,Z,T,q⟩:=h;refine⟨_,(ag (aI (i:=3) d_.nd rfl (cj rfl) aj) (ag (dz PassesOwn.never rfl (Td rfl M.CO (aa (pv 1) af)) (bb (i:=4) d_.nd rfl (cj rfl)) (ai (aT (dB (sL B aK.cls hr.m aQ (pv 4))) (ag (aT (aw aY (eL (pv 4) rfl) (pv 0) (az _)) (ai (aA (bp (aa aq (aa (pv 3) af))))) aC) (ai (sY (i:=3) d_.nd rfl (cj rfl) aj rZ))) aC))) (ag (aT (aw m5 (pv 0) (pv 2) rfl) (ai (aA (bp (aa aq (aa (aN dN (pv 3) (gg PySem.F.plainAttrs_list PySem.F.slot_list_index PySem.F.type_list_index Gz (pv 2) (aa (pv 0) af))) af))))) aC) (ai (aA (bp (aa aq (aa (pv 0) af)))))))),?_⟩;try dsimp only[iF,Y]
 refine pq ?_;intro _ _ _ _;refine⟨_,rfl,a,_,rfl,aZ.of ha,?_⟩;have hlen:((st.map λq=>V.ref q.1).reverse).length=st.length:=by simp
 rw[hlen];let G:Nat->L2.St->Hp->Prop:=(λi r H'=>∃(bn:Nat)(o:Option V),r=[some (.str z),some (.ref a),some (.ref b),some (.int (bn:Nat)),o]/\H'=H/\bn<=i/\vE z names (st.map (·.2.2)) 0=vE z names ((st.drop i).map (·.2.2)) bn);refine eA st.length G ?_ ?_ ?_;·exact⟨0,none,rfl,rfl,zQ04 _,by rw[List.drop_zero]⟩
 ·rintro i r C hi⟨bn,o,rfl,rfl,L,g⟩;refine⟨⟨hi,_,aZ.of ha,hlen⟩,?_⟩;rintro x' X⟨rfl,n⟩;have n:=n _ (aZ.of ha);have O:((st.map λq=>V.ref q.1).reverse)[st.length-1-i]?=some (V.ref (st[i]).1):=by rw[List.getElem?_reverse (by rw[bD];omega),bD,show st.length-1-(st.length-1-i)=i by omega,gs,zQ03 hi];rfl
  rw[O]at n;cases n;have hq:=J st[i] (List.getElem_mem hi);have N:(st.drop i).map (·.2.2)=(st[i]).2.2::((st.drop (i+1)).map (·.2.2)):=by rw[List.drop_eq_getElem_cons hi,cD]
  rw[N]at g;generalize st[i]=W at hq g⊢;obtain⟨p,U,fo⟩:=W;obtain⟨⟨ps,F,x⟩,u⟩:=hq;dsimp only at F x u g⊢;obtain⟨dx,d,v,hd⟩:=id F.obj;have R:ps.length=fo.parts.length:=x.length;refine⟨_,rfl,p,dx,_,rfl,v,rfl,p,U,fo.word,fo.name,_,ps,rfl,F,u,_,rfl,?_⟩;have I:(fo.name.isSome&&decide (dw fo.word=V.int ((ps.length:Nat):Int)))=rq fo:=by unfold rq;rw[R]
  rw[I];have j:vE z names (st.map (·.2.2)) 0=if rq fo=true then(if fo.name=some z then .tup [.str "var", .int (bn:Nat)]else vE z names ((st.drop (i+1)).map (·.2.2)) (bn+1))else vE z names ((st.drop (i+1)).map (·.2.2)) bn:=g;cases k:rq fo with
   |false=>rw[k]at j;exact bR ⟨bn,_,rfl,rfl,by omega,by rw[j,if_neg (by decide)]⟩
   |true=>
    rw[k,if_pos rfl]at j;obtain⟨y,S⟩:∃y,fo.name=some y:=by unfold rq at k;cases e:fo.name with|none=>rw[e]at k;cases k|some y=>exact⟨y,rfl⟩
    refine bj ⟨_,rfl,p,t.Form,dx,_,_,rfl,v,aK.cls,aK.name,rfl,_,rfl,?_⟩;rw[S]at j⊢;refine⟨rfl,_,rfl,?_⟩;by_cases e:y=z;·subst e;rw[if_pos rfl]at j;refine bL (λ_=>?_) (λc=>absurd (decide_eq_true rfl) c);refine⟨_,rfl,(gu rfl),λm l=>?_⟩;rw[j]at q;exact q _ _ (ao l _) ⟨m,_,rfl,ah,_,_,rfl,⟨rfl,by decide+kernel⟩,_,_,rfl,rfl,rfl⟩
    ·rw[if_neg (λh=>e (Option.some.inj h))]at j;refine bL (λc=>absurd (by have :=of_decide_eq_true c;injection this) e) (λ_=>?_);refine⟨_,rfl,_,_,rfl,rfl,?_⟩;exact⟨bn+1,_,rfl,rfl,by omega,j⟩
 ·rintro r C⟨bn,o,rfl,rfl,L,g⟩;rw[List.drop_length]at g;have g:vE z names (st.map (·.2.2)) 0=if z∈names then .tup [.str "var", .int ((bn+names.idxOf z:Nat):Int)]else .tup [.str "name", .str z]:=g;refine⟨rfl,_,rfl,_,rfl,b,_,rfl, .inl hb,rfl,vo _,_,rfl,?_⟩;rw[lL];by_cases hm:z∈names;·rw[if_pos hm]at g;rw[decide_eq_true hm];refine bj ⟨_,rfl,_,rfl, .inl ⟨rfl,_,hb⟩,_,rfl,b,names,z,rfl,rfl,hb,hm,(by omega),_,_,rfl,rfl,(gu rfl),λm l=>?_⟩;rw[g]at q;exact q _ _ (ao l _) ⟨m,_,rfl,ah,_,_,rfl,⟨rfl,by decide+kernel⟩,_,_,rfl,rfl,rfl⟩
  ·rw[if_neg hm]at g;rw[decide_eq_false hm];refine bR ⟨_,rfl,(gu rfl),λm l=>?_⟩;rw[g]at q;exact q _ _ (ao l _) ⟨m,_,rfl,ah,_,_,rfl,⟨rfl,by decide+kernel⟩,_,_,rfl,⟨rfl,T⟩,rfl⟩
noncomputable def Js(z:Str):Nat:=match PySem.intText? z with|some n=>n.toNat|none=>0
noncomputable def cZ(z:Str)(names:List Str)(st:List Fo):Option D:=if z∈(["nat","none","zero"]:List Str)then some (.tup [.str z])else if nA z=true then some (fL (Js z))else if iT (.str z)=true then some (vE z names st 0)else none
def FC(K:PySem.W.Frag)(C N:Addr):Sp:=λvs H Q E=>∃(a b:Addr)(z:Str)(st:List (Addr×Addr×Fo))(names:List Str),vs=[.str z, .ref a, .ref b]/\H a=some (.lst ((st.map λq=>V.ref q.1).reverse))/\st.length<=100000/\(∀q∈st,MO K C H q.1 q.2.1 q.2.2)/\H b=some (.lst (names.map V.str))/\names.length<=1000/\1<=z.length/\z.length<=1000/\(cZ z names (st.map (·.2.2))=none->∀H',aE H H'->E (.ref N) none H')/\∀(d:D),cZ z names (st.map (·.2.2))=some d->∀(v:V)(H':Hp),aE H H'->Rep H' d v->Q v H'
theorem MO.mono{C x p:Addr}{H H':Hp}{f:Fo}(h:MO K C H x p f)(s:aE H H'):MO K C H' x p f:=by obtain⟨⟨ps,F,r⟩,hb⟩:=h;exact⟨⟨ps,F.mono s,r.mono s⟩,hb⟩
theorem J_(D:Df K mg "leaf_of" jM ["word","forms","names"])(M:Mg mg t)(o:tJ K t.bc)(y:bu P w K mg bx "is_figure" (1) ["word"] Oe)(p:bu P w K mg bx "count_of" (1) ["number"] EW)(u:bu P w K mg bx "is_name" (1) ["value"] lC)(x:bu P w K mg bx "thing_named" (2) ["word","forms","names"] (Ee K t.Form)):bu P w K mg (gO P w) "leaf_of" (3) ["word","forms","names"] (FC K t.Form t.bc):=by
 have r:=y;refine D.LY CJ (λvs H Q E h=>?_) (λbase f bS A outer s H vs Q E hr h=>?_);·obtain⟨a,b,z,st,names,rfl,_⟩:=h;rfl
 obtain⟨a,b,z,st,names,rfl,ha,O,F,hb,J,h1,h2,T,q⟩:=h;refine⟨_,(ag (aT (aw m5 (pv 0) (bp (aa aq (aa aq (aa aq af)))) rfl) (ai (aA (bp (aa (pv 0) af)))) aC) (ag (aT (dB (aO r hr.m rfl aQ (aa (pv 0) af))) (ai (aA (aO p hr.m rfl aQ (aa (bY nH rfl M.BI tZ (aa (pv 0) af)) af)))) aC) (ag (aT (dB (aO u hr.m rfl aQ (aa (pv 0) af))) (ai (aA (aO x hr.m rfl aQ (aa (pv 0) (aa (pv 1) (aa (pv 2) af)))))) aC) (ai (dH (G:=(λH'=>E (.ref t.bc) none H')) o M.g_NoText (aa aq af) (λpins σ H s e h' I m q=>eP I m q)))))),?_⟩;try dsimp only[iF,cJ]
 refine pq ?_;intro _ _ _ _;refine⟨_,rfl,(gu rfl),λk L=>⟨k,(["nat","none","zero"]:List Str).map V.str,rfl, .inr (cu.of ah),rfl,rfl,_,rfl,?_⟩⟩;have s1:=ao L (.tup [V.str "nat", .str "none", .str "zero"]);show if(O7 (.str z) ((["nat","none","zero"]:List Str).map V.str))=true then _ else _;rw[lL];generalize upd H k (.tup [V.str "nat", .str "none", .str "zero"])=Y at s1⊢;by_cases c:z∈(["nat","none","zero"]:List Str);·rw[decide_eq_true c];refine bj ⟨_,rfl,(gu rfl),λR N=>?_⟩;exact q (.tup [.str z]) (by unfold cZ;rw[if_pos c]) _ _ (s1.trans (ao N _)) ⟨R,_,rfl,ah,_,_,rfl,⟨rfl,h2⟩,rfl⟩
 rw[decide_eq_false c];refine bR ⟨_,rfl,z,rfl,h1,(by omega),λZ s2=>⟨_,rfl,?_⟩⟩;have l:=s1.trans s2;cases g:nA z with
  |true=>
   obtain⟨n,abp,hv,hzn,YJ⟩:=IG h1 g;have e:cZ z names (st.map (·.2.2))=some (fL n):=by unfold cZ Js;rw[if_neg c,if_pos g,hv];rfl
   exact bj ⟨_,rfl,z,_,rfl,hv,(by omega),n,rfl,(by omega),λv i j U=>q _ e v i (l.trans j) U⟩
  |false=>
   refine bR ⟨_,rfl, .str z, .str z,rfl,⟨rfl,h2⟩,λi j=>⟨_,rfl,?_⟩⟩;have d:=l.trans j;cases hn:iT (.str z)with
    |false=>exact bR ⟨by decide,T (by unfold cZ;rw[if_neg c,if_neg (by rw[g];decide),if_neg (by rw[hn];decide)]) i d⟩
    |true=>
     have e:cZ z names (st.map (·.2.2))=some (vE z names (st.map (·.2.2)) 0):=by unfold cZ;rw[if_neg c,if_neg (by rw[g];decide),if_pos hn]
     refine bj ⟨_,rfl,_,rfl,_,rfl,a,b,z,st,names,rfl,d _ _ ha,O,λS C=>(F S C).mono d,?_,J,h2,λv B X W=>q _ e v B (d.trans X) W⟩;exact aZ.of (d _ _ hb)
noncomputable def Ax:D->Bool| .tup (.str y::_)=>dE y|_=>false
noncomputable def dR(f:Fo)(d:D):Option Fo:=match f.i_[f.parts.length]? with|none=>none|some dd=>if Ax d=decide (dd="kind")then some {f with parts:=f.parts++[d]}else none
noncomputable def V7(f:Fo):D:= .tup (.str f.word::f.parts)
noncomputable def oA(names:List Str):Nat->List Str->List Fo->Option (List Fo)|_,[],st=>some st|0,_::_,_=>none|n+1,z::ws,st=>if z="("then match dS (ws.take 2)with|none=>none|some fo=>oA names n (ws.drop (if fo.name=none then 1 else 2)) (fo::st)else if z=")"then match st with|fo::go::r=>if fo.parts.length=fo.i_.length then(match dR go (V7 fo)with|some g'=>oA names n ws (g'::r)|none=>none)else none|_=>none else match st with|fo::r=>(match cZ z names (fo::r)with|some d=>(match dR fo d with|some f'=>oA names n ws (f'::r)|none=>none)|none=>none)|[]=>none
theorem lI(names:List Str):∀(n m:Nat)(ws:List Str)(st:List Fo),ws.length<=n->ws.length<=m->oA names n ws st=oA names m ws st
 |n,m,[],st,_,_=>by cases n<;>cases m<;>rfl
 |0,_,_::_,_,h,_=>by simp at h
 |_,0,_::_,_,_,h=>by simp at h
 |n+1,m+1,z::ws,st,h1,h2=>by
  have h1:ws.length<=n:=by simpa using h1
  have h2:ws.length<=m:=by simpa using h2
  simp only[oA];split;·cases dS (ws.take 2)with|none=>rfl|some fo=>exact lI names n m _ _ (by rw[jP];omega) (by rw[jP];omega)
  split
  ·match st with
    |[]=>rfl
    |[_]=>rfl
    |fo::go::r=>
     simp only;split;·cases dR go (V7 fo)with|none=>rfl|some g'=>exact lI names n m _ _ h1 h2
     ·rfl
  ·match st with|[]=>rfl|fo::r=>simp only;cases cZ z names (fo::r)with|none=>rfl|some d=>simp only;cases dR fo d with|none=>rfl|some f'=>exact lI names n m _ _ h1 h2
noncomputable def LJ(dd:Str):Fo:=⟨"",none,[dd],[]⟩
noncomputable def outD:Option (List Fo)->Option D|some [fo]=>fo.parts.head?|_=>none
noncomputable def oy(names:List Str)(dd:Str)(ws:List Str):Option D:=outD (oA names ws.length ws [LJ dd])
theorem AX{f f':Fo}{d:D}(h:dR f d=some f'):f.parts.length<f.i_.length/\f'={f with parts:=f.parts++[d]}/\∃dd,f.i_[f.parts.length]?=some dd/\Ax d=decide (dd="kind"):=by
 unfold dR at h;cases e:f.i_[f.parts.length]? with
  |none=>rw[e]at h;cases h
  |some dd=>
   rw[e]at h;simp only at h;split at h;·rename_i c;exact⟨(List.getElem?_eq_some_iff.mp e).1,(Option.some.inj h).symm,dd,rfl,c⟩
   ·cases h
theorem Tg{x:Str}(h:fQ x BO=true):∃i:Int,KTD.datumAt x BO=some (.int i):=by
 unfold fQ at h;cases e:KTD.datumAt x BO with
  |none=>rw[e]at h;cases h
  |some v=>
   have :v= .int 1\/v= .int 0:=by
    simp only[KTD.datumAt,BO]at e;repeat' split at e
    all_goals first|(cases e;exact .inl rfl)|(cases e;exact .inr rfl)|cases e
   rcases this with z|z<;>rw[z]<;>exact⟨_,rfl⟩
theorem CS{b:List Str}{fo:Fo}(h:dS b=some fo):fo.parts=[]/\fo.i_.length<=4/\(fo.name.isSome=true->∃i:Int,KTD.datumAt fo.word BO=some (.int i))/\(if fo.name=none then 1 else 2)<=b.length/\fo.word=nK b:=by
 unfold dS at h;by_cases c:bN (nK b)=[];·rw[if_pos c]at h;cases h
 rw[if_neg c]at h;by_cases d:fQ (nK b) BO=false;·rw[if_pos d]at h;cases h;refine⟨rfl,B1 _,λz=>(nomatch z),?_,rfl⟩;rw[if_pos rfl];cases b with|nil=>exact absurd (by decide+kernel) c|cons a l=>simp
 ·rw[if_neg d]at h;match b,h with
   |[y,n],h=>
    have h:(if iT (.str n)=true then some (⟨nK [y,n],some n,bN (nK [y,n]),[]⟩:Fo)else none)=some fo:=h;split at h;·cases h;exact⟨rfl,B1 _,λ_=>Tg (by cases e:fQ (nK [y,n]) BO with|false=>exact absurd e d|true=>rfl),by rw[if_neg (by simp)];simp,rfl⟩
    ·cases h
theorem Ii{z:Str}{names:List Str}{st:List Fo}{d:D}(h:cZ z names st=some d):∃(y:Str)(ds:List D),d= .tup (.str y::ds):=by
 have nm:∀(st:List Fo)(b:Nat),∃(y:Str)(ds:List D),vE z names st b= .tup (.str y::ds):=λst=>by
  induction st with
   |nil=>intro b;simp only[vE];split<;>exact⟨_,_,rfl⟩
   |cons f r a=>
    intro b;simp only[vE];split
    ·split;·exact⟨_,_,rfl⟩
     ·exact a _
    ·exact a _
 unfold cZ at h;split at h;·cases h;exact⟨_,_,rfl⟩
 split at h;·cases h;cases Js z with|zero=>exact⟨_,_,rfl⟩|succ n=>exact⟨_,_,rfl⟩
 split at h;·cases h;exact nm st 0
 ·cases h
theorem MO.d9{C x p q:Addr}{H H':Hp}{f:Fo}{xs:List V}(h:MO K C H x p f)(hq:H q=some (.lst xs))(ne:p≠q)(s:bg q H H'):MO K C H' x p f:=by
 obtain⟨⟨ps,F,r⟩,hb⟩:=h;obtain⟨dx,d,a,hd⟩:=F.obj;refine⟨⟨ps,⟨⟨dx,d,s _ _ (λe=>by rw[e,hq]at a;cases a) a,?_⟩,s _ _ ne F.parts⟩,r.d9 s λvs z=>by rw[hq]at z;cases z⟩,hb⟩;rcases hd with h|h;·exact .inl (h.imp (λh=>s _ _ (λe=>by rw[e,hq]at h;cases h) h) λ⟨o,h⟩=>⟨o,s _ _ (λe=>by rw[e,hq]at h;cases h) h⟩)
 ·exact .inr h
noncomputable abbrev Ent:=Addr×Addr×Fo
structure zM(K:PySem.W.Frag)(C:Addr)(H0 H:Hp)(pf pw:Addr)(st:List Ent):Prop where
 Ft:∀q∈st,MO K C H q.1 q.2.1 q.2.2
 nd:(st.map (·.2.1)).Nodup
 fr:∀q∈st,H0 q.2.1=none
 MD:∀q∈st,q.2.1≠pf
 N6:∀q∈st,q.2.1≠pw
 le:∀q∈st,q.2.2.parts.length<=q.2.2.i_.length/\q.2.2.i_.length<=4/\q.2.2.word.length<=1000
section
variable{C pf pw:Addr}{H0 H H':Hp}{st:List Ent}
theorem zM.mono(S:zM K C H0 H pf pw st)(s:aE H H'):zM K C H0 H' pf pw st:=⟨λq h=>(S.Ft q h).mono s,S.nd,S.fr,S.MD,S.N6,S.le⟩
theorem zM.Pd{xs:List V}(S:zM K C H0 H pf pw st)(hq:H pf=some (.lst xs))(s:bg pf H H'):zM K C H0 H' pf pw st:=⟨λq h=>(S.Ft q h).d9 hq (S.MD q h) s,S.nd,S.fr,S.MD,S.N6,S.le⟩
theorem zM.tail{q:Ent}(S:zM K C H0 H pf pw (q::st)):zM K C H0 H pf pw st:=⟨λq h=>S.Ft q (ck _ h),(List.nodup_cons.mp S.nd).2,λq h=>S.fr q (ck _ h),λq h=>S.MD q (ck _ h),λq h=>S.N6 q (ck _ h),λq h=>S.le q (ck _ h)⟩
theorem zM.take{x p a:Addr}{fo:Fo}{d:D}{ps:List V}(S:zM K C H0 H pf pw ((x,p,fo)::st))(F:Fm K C H x (.str fo.word) (Uw fo.name) (fo.i_.map V.str) p ps)(i:bK H fo.parts ps)(rd:Rep H d (.ref a))(lt:fo.parts.length<fo.i_.length)(f:H' p=some (.lst (ps++[.ref a])))(s:bg p H H'):zM K C H0 H' pf pw ((x,p,{fo with parts:=fo.parts++[d]})::st):=by
 have nt:∀vs,H p≠some (.tup vs):=λvs z=>by rw[F.parts]at z;cases z
 obtain⟨dx,c,b,hd⟩:=id F.obj;have g:x≠p:=λe=>by rw[e,F.parts]at b;cases b
 refine⟨λq h=>?_,S.nd,λq h=>?_,λq h=>?_,λq h=>?_,λq h=>?_⟩
 ·rcases List.mem_cons.mp h with rfl|h
  ·refine⟨⟨ps++[.ref a],⟨⟨dx,c,s _ _ g b,?_⟩,f⟩,(i.d9 s nt).snoc (rd.d9 s nt)⟩,(S.Ft (x,p,fo) bI).2⟩;rcases hd with h|h;·exact .inl (h.imp (λh=>s _ _ (λe=>by rw[e,F.parts]at h;cases h) h) λ⟨o,h⟩=>⟨o,s _ _ (λe=>by rw[e,F.parts]at h;cases h) h⟩)
   ·exact .inr h
  ·have n:=(List.nodup_cons.mp S.nd).1;exact(S.Ft q (ck _ h)).d9 F.parts (λe=>n (List.mem_map.mpr ⟨q,h,e⟩)) s
 ·rcases List.mem_cons.mp h with rfl|h;·exact S.fr (x,p,fo) bI
  ·exact S.fr q (ck _ h)
 ·rcases List.mem_cons.mp h with rfl|h;·exact S.MD (x,p,fo) bI
  ·exact S.MD q (ck _ h)
 ·rcases List.mem_cons.mp h with rfl|h;·exact S.N6 (x,p,fo) bI
  ·exact S.N6 q (ck _ h)
 ·rcases List.mem_cons.mp h with rfl|h;·have :=S.le (x,p,fo) bI;refine⟨?_,this.2⟩;show(fo.parts++[d]).length<=fo.i_.length;rw[cS,List.length_singleton];exact lt
  ·exact S.le q (ck _ h)
theorem Fi{x p N:Addr}{fo:Fo}{d:D}{v:V}{y:Str}{ds:List D}{Q:VK}{E:XK}(S:zM K C H0 H pf pw ((x,p,fo)::st))(rd:Rep H d v)(hd:d= .tup (.str y::ds))(f:dR fo d=none->E (.ref N) none H)(q:∀f':Fo,dR fo d=some f'->∀H',zM K C H0 H' pf pw ((x,p,f')::st)->bg p H H'->Q .bA H'):sv K C N [.ref x,v] H Q E:=by
 obtain⟨⟨ps,F,b⟩,_⟩:=S.Ft (x,p,fo) bI;dsimp only at F b;have j:=S.le (x,p,fo) bI;dsimp only at j;subst hd;obtain⟨a,n,rfl,ha,o,us,rfl,⟨rfl,l⟩,m⟩:=id rd;have g:=b.length;have k:(fo.i_.map V.str).length=fo.i_.length:=bD _;have get:∀dd:Str,(fo.i_.map V.str)[ps.length]?=some (.str dd)->fo.i_[fo.parts.length]?=some dd:=λdd h=>by rw[gs,g]at h;cases e:fo.i_[fo.parts.length]? with|none=>rw[e]at h;cases h|some y=>rw[e]at h;have :=Option.some.inj h;injection this with this;rw[this]
 refine⟨x,p,a,_,_,fo.i_.map V.str,ps,us,y,rfl,F,ha,by omega,λc=>f ?_,λdd h c=>f ?_,λc=>?_⟩;·unfold dR;rw[List.getElem?_eq_none (by omega)]
 ·unfold dR;rw[get dd h];exact if_neg c
 ·have lt:fo.parts.length<fo.i_.length:=by omega
  refine⟨fo.i_[fo.parts.length],by rw[g,gs,zQ03 lt];rfl,λc H' h' s=>?_⟩;have i:dR fo (.tup (.str y::ds))=some {fo with parts:=fo.parts++[.tup (.str y::ds)]}:=by unfold dR;rw[zQ03 lt];exact if_pos c
  exact q _ i H' (S.take F b rd lt h' s) s
theorem zM.push{x p:Addr}{fo:Fo}{xs ys:List V}(S:zM K C H0 H pf pw st)(s:aE H H')(g:aE H0 H)(b:H pf=some (.lst xs))(c:H pw=some (.lst ys))(a:H p=none)(F:Fm K C H' x (.str fo.word) (Uw fo.name) (fo.i_.map V.str) p [])(e:fo.parts=[])(LL:fo.i_.length<=4)(hw:fo.word.length<=1000)(hb:fo.name.isSome=true->∃i:Int,KTD.datumAt fo.word BO=some (.int i)):zM K C H0 H' pf pw ((x,p,fo)::st):=by
 have f:=S.mono s;refine⟨λq h=>?_,List.nodup_cons.mpr ⟨λh=>?_,S.nd⟩,λq h=>?_,λq h=>?_,λq h=>?_,λq h=>?_⟩
 ·rcases List.mem_cons.mp h with rfl|h;·exact⟨⟨[],F,by rw[e];rfl⟩,hb⟩
  ·exact f.Ft q h
 ·obtain⟨q,h1,h2⟩:=List.mem_map.mp h;obtain⟨⟨ps,d,_⟩,_⟩:=S.Ft q h1;have :=d.parts;rw[h2,a]at this;cases this
 ·rcases List.mem_cons.mp h with rfl|h;·exact g.free a
  ·exact S.fr q h
 ·rcases List.mem_cons.mp h with rfl|h;·exactλe=>by rw[show pf=p from e.symm,a]at b;cases b
  ·exact S.MD q h
 ·rcases List.mem_cons.mp h with rfl|h;·exactλe=>by rw[show pw=p from e.symm,a]at c;cases c
  ·exact S.N6 q h
 ·rcases List.mem_cons.mp h with rfl|h;·exact⟨by rw[e];exact zQ25 _,LL,hw⟩
  ·exact S.le q h
end
noncomputable def kb(x:Addr)(dd:Str):List Ent->Prop|[]=>False|[q]=>q.1=x/\q.2.2.i_=[dd]|_::q::r=>kb x dd (q::r)
theorem kb.head{x:Addr}{dd:Str}{q b:Ent}{r:List Ent}(h:kb x dd (q::r))(c:b.1=q.1)(d:b.2.2.i_=q.2.2.i_):kb x dd (b::r):=by cases r with|nil=>exact⟨c.trans h.1,d.trans h.2⟩|cons a r=>exact h
theorem kb.push{x:Addr}{dd:Str}{q:Ent}{r:List Ent}(h:kb x dd r):kb x dd (q::r):=by cases r with|nil=>exact h.elim|cons a r=>exact h
theorem aau(xs:List V)(k:Nat)(h:k<=xs.length):iA xs (some (k:Int)) (some ((k:Int)+2))=(xs.drop k).take 2:=by
 unfold iA;rw[show((k:Nat):Int)+2=((k+2:Nat):Int)by omega,HT.pW,HT.pW,Nat.min_eq_left h];by_cases h2:k+2<=xs.length;·rw[Nat.min_eq_left h2,show k+2-k=2 by omega]
 ·rw[Nat.min_eq_right (by omega),rY (by rw[jP];omega),rY (by rw[jP];omega)]
theorem Ef(v:V)(l:List V):lJ ((v::l).reverse) (-1)=some v:=by rw[List.reverse_cons];exact Bl _ _
noncomputable abbrev UC(d:D):Bool:=iU d
def qD(K:PySem.W.Frag)(N G:Addr):Sp:=λvs H Q E=>∃(T dd:Str)(b:Addr)(names:List Str),vs=[.str T, .ref b, .str dd]/\T.length<=99999/\H b=some (.lst (names.map V.str))/\names.length<=1000/\(cP T.cps.toList).length<=50000/\(∀z∈cP T.cps.toList,1<=z.length/\z.length<=1000)/\(oy names dd ((cP T.cps.toList).map tx)=none->∀H',aE H H'->E (.ref N) none H')/\∀d:D,oy names dd ((cP T.cps.toList).map tx)=some d->Rb d 60/\(∀(v:V)(H':Hp),aE H H'->Rep H' d v->UC d=false->Q v H')/\∀H',aE H H'->UC d=true->E (.ref G) none H'
theorem bC:aG ["text","names","due","words","whole","forms","place","word","form","closed"] ["text","names","due"] (ak fG):=⟨rfl,rfl,rfl,by decide+kernel,rfl,by decide+kernel,by decide+kernel⟩
theorem Jc(D:Df K mg "read_thing" fG ["text","names","due"])(M:Mg mg t)(aK:oO K t.Form)(cK:tJ K t.bc)(DN:xI P w K mg bx "words_of" 2 ["text"] FK)(gA:L5 P w K mg "Form" t.Form 1 ["self","word","name","due"] (xT t.Form))(c_:jR P w K mg bx t.Form "is_full" (1) ["self"] (vN K t.Form))(oN:jR P w K mg (gO P w) t.Form "take" (2) ["self","thing"] (sv K t.Form t.bc))(uC:jR P w K mg (gO P w) t.Form "closed" (2) ["self"] (BF K t.Form t.bc))(G7:bu P w K mg (gO P w) "form_of" (3) ["head"] (B_ K t.Form t.bc))(G3:bu P w K mg (gO P w) "leaf_of" (3) ["word","forms","names"] (FC K t.Form t.bc))(G4:bu P w K mg (gO P w) "bounded" (64) ["thing"] (vg t.gJ 60)):xI P w K mg (gO P w) "read_thing" 66 ["text","names","due"] (qD K t.bc t.gJ):=by
 refine D.V5 bC (λvs H Q E h=>?_) (λbase f bS A outer s H vs Q E hr h=>?_);·obtain⟨T,dd,b,names,rfl,_⟩:=h;rfl
 obtain⟨T,dd,b,names,rfl,hT,hb,L6,hw1,hw2,qe,q⟩:=h;refine⟨_,(eB (Ei (i:=3) bC.nd rfl (cj rfl) (Tj DN hr.m rfl aQ (aa (pv 0) af))) (eB (DH (aI (i:=4) bC.nd rfl (cj rfl) (Du gA hr.m rfl aQ (aa aq (aa ni (aa (bp (aa (pv 2) af)) af)))))) (eB (DH (aI (i:=5) bC.nd rfl (cj rfl) (bX (aa (pv 4) af)))) (eB (DH (aI (i:=6) bC.nd rfl (cj rfl) aj)) (eB (DH (tW N3 (aw BJ (pv 6) (aJ aM rfl M.cH bO (aa (pv 3) af)) (az _)) (ag (aI (i:=7) bC.nd rfl (cj rfl) (aX bJ (pv 3) (pv 6) (λ_ _=>rfl))) (ag (sY (i:=6) bC.nd rfl (cj rfl) aj rZ) (ai (aT (aw aY (pv 7) aq (az _)) (ag (aI (i:=8) bC.nd rfl (cj rfl) (aO G7 hr.m rfl e_ (aa (eX qd (pv 3) (eT (pv 6)) (eT (aN dN (pv 6) aj))) af))) (ag (dq (gg PySem.F.plainAttrs_list PySem.F.slot_list_append PySem.F.type_list_append dj (pv 5) (aa (pv 8) af))) (ai (sY (i:=6) bC.nd rfl (cj rfl) (jC (aw QQ (eL (pv 8) rfl) ni (az _)) aj aj) rZ)))) (ai (aT (aw aY (pv 7) aq (az _)) (ag (aT (aw aY (aJ aM rfl M.cH bO (aa (pv 5) af)) aj (az _)) (ai (dH (G:=(λH'=>E (.ref t.bc) none H')) cK M.g_NoText (aa aq af) (λpins σ H s e h' I m q=>eP I m q))) aC) (ag (aI (i:=9) bC.nd rfl (cj rfl) (sL uC aK.cls hr.m e_ (R8 PySem.F.plainAttrs_list PySem.F.slot_list_pop PySem.F.type_list_pop Sv (pv 5)))) (ai (dq (Oh oN aK.cls hr.m e_ (aX bJ (pv 5) (rJ kf aj) (λ_ _=>rfl)) (aa (pv 9) af)))))) (ai (dq (Oh oN aK.cls hr.m e_ (aX bJ (pv 5) (rJ kf aj) (λ_ _=>rfl)) (aa (aO G3 hr.m rfl e_ (aa (pv 7) (aa (pv 5) (aa (pv 1) af)))) af)))))))))))) (eB (DH (aT (L2.PW.pt (fE (aw nZ (aJ aM rfl M.cH bO (aa (pv 5) af)) aj (az _)) (fB (nM (dB (sL c_ aK.cls hr.m aQ (pv 4))))))) (ai (dH (G:=(λH'=>E (.ref t.bc) none H')) cK M.g_NoText (aa aq af) (λpins σ H s e h' I m q=>eP I m q))) aC)) (BD (DH (aA (aO G4 hr.m rfl e_ (aa (aX bJ (eL (pv 4) rfl) aj (λ_ _=>rfl)) af))))))))))),?_⟩;try dsimp only[iF,cJ]
 refine aa4 ?_;intro _ _ _ _ _ _ _;refine⟨_,rfl,T,rfl,(by omega),λpw H1 e1 s1 HL=>?_⟩;have ews:(cP T.cps.toList).map (λw=>V.str (tx w))=((cP T.cps.toList).map tx).map V.str:=by rw[List.map_map];rfl
 rw[ews]at HL;have Y8:∀z∈(cP T.cps.toList).map tx,1<=z.length/\z.length<=1000:=λz h=>by obtain⟨l,h1,rfl⟩:=List.mem_map.mp h;have :=hw2 l h1;rw[JW];exact this
 have hw4:((cP T.cps.toList).map tx).length<=50000:=by rw[bD];exact hw1
 clear ews hw1 hw2;generalize(cP T.cps.toList).map tx=ws at HL Y8 hw4 qe q;refine⟨_,rfl,(gu rfl),λpd hpd x dx hx Lj Uo=>?_⟩;have t2:=ao hpd (.tup [V.str dd]);have TF:(upd H1 pd (.tup [V.str dd])) pd=some (.tup [V.str dd]):=ah;generalize upd H1 pd (.tup [V.str dd])=H2 at t2 TF hx Lj⊢;refine⟨x,dx, .str "", .bA, .ref pd,rfl,ah,λp H3 hp NY yL YI keep=>⟨rfl,?_⟩⟩;have Up:aE H2 H3:=λb o h=>by have n1:b≠x:=ay h hx;have n2:b≠dx:=ay h Lj;exact keep b o n1 (by rw[aP n1,aP n2];exact h)
 have pj:H2 p=none:=by
  rw[aP NY]at hp;by_cases e:p=dx;·rw[e];exact Lj
  ·rw[aP e]at hp;exact hp
 clear hp keep;have Uv:=s1.trans t2;have s03:=Uv.trans Up;have Ms:=Up _ _ (t2 _ _ HL);clear hx Lj Uo;refine⟨_,rfl,(gu rfl),λpf HN=>?_⟩;have t4:=ao HN (.lst [V.ref x]);have SJ:(upd H3 pf (.lst [V.ref x])) pf=some (.lst [V.ref x]):=ah;have ZT:=s03.trans t4;have QU:=t4 _ _ Ms;have Yj:H pf=none:=s03.free HN;have UB:pw≠pf:=λe=>by rw[e,HN]at Ms;cases Ms
 have S4:zM K t.Form H (upd H3 pf (.lst [V.ref x])) pf pw [(x,p,LJ dd)]:=by
  refine⟨λq h=>?_,by simp,λq h=>?_,λq h=>?_,λq h=>?_,λq h=>?_⟩;all_goals(rw[List.mem_singleton]at h;subst h)
  ·exact⟨⟨[],⟨⟨dx,pd,t4 _ _ YI,cu.of (t4 _ _ (Up _ _ TF))⟩,t4 _ _ yL⟩,rfl⟩,λz=>(nomatch z)⟩
  ·exact Uv.free pj
  ·exactλe=>by rw[<-show p=pf from e,yL]at HN;cases HN
  ·exactλe=>by have :=t2 _ _ HL;rw[<-show p=pw from e,pj]at this;cases this
  ·exact⟨zQ25 _,by show 1<=4;decide,by show(Str.ofString "").length<=1000;decide+kernel⟩
 generalize upd H3 pf (.lst [V.ref x])=H4 at SJ ZT QU S4⊢;clear t4 HN YI yL TF Ms s03 Uv HL pj t2 hpd Up s1;let Iw:Nat->L2.St->Hp->Prop:=λm a_ H'=>∃(k:Nat)(st:List Ent)(wv fv cv:Option V),a_=[some (.str T),some (.ref b),some (.str dd),some (.ref pw),some (.ref x),some (.ref pf),some (.int (k:Nat)),wv,fv,cv]/\m=ws.length-k/\k<=ws.length/\zM K t.Form H H' pf pw st/\H' pf=some (.lst ((st.map λq=>V.ref q.1).reverse))/\H' pw=some (.lst (ws.map V.str))/\aE H H'/\kb x dd st/\st.length<=k+1/\oA names ws.length (ws.drop k) (st.map (·.2.2))=oA names ws.length ws [LJ dd];refine⟨Iw,⟨_,0,[(x,p,LJ dd)],none,none,none,rfl,rfl,zQ25 _,S4,SJ,QU,ZT,⟨rfl,rfl⟩,by simp,rfl⟩,?_⟩;clear S4 SJ QU ZT;rintro m a_ Y⟨k,st,wv,fv,cv,rfl,rfl,hk,S,B,CQ,L,U,LK,a⟩;refine⟨_,rfl,_,rfl,pw,_,rfl, .inl (aZ.of CQ),_,_,rfl,rfl,_,rfl,?_⟩;have R7:(ws.map V.str).length=ws.length:=bD _;by_cases NK:k<ws.length
 ·refine bL (λ_=>?_) (λc=>absurd (decide_eq_true (by rw[R7];omega)) c);refine⟨λa_ H'=>∃m',m'<ws.length-k/\Iw m' a_ H',λa_ H' h=>h,?_⟩;obtain⟨z,hz⟩:∃z,ws[k]?=some z:=⟨ws[k],zQ03 NK⟩;have hzm:z∈ws:=m_ hz;have YQ:ws.drop k=z::ws.drop (k+1):=by rw[List.drop_eq_getElem_cons NK];rw[zQ03 NK]at hz;rw[Option.some.inj hz]
  obtain⟨n,hn⟩:∃n,ws.length=n+1:=⟨ws.length-1,by omega⟩;have fuel:∀(R1:List Str)(mX:List Fo),R1.length<=n->oA names ws.length R1 mX=oA names n R1 mX:=λR1 mX h=>lI names _ _ _ _ (by omega) h;rw[YQ]at a;have a:oA names (n+1) (z::ws.drop (k+1)) (st.map (·.2.2))=oA names ws.length ws [LJ dd]:=by rw[<-hn];exact a
  have hdl:(ws.drop (k+1)).length<=n:=by rw[jP];omega
  generalize O:oA names ws.length ws [LJ dd]=R at a;have Ul:R=none->∀H',aE H H'->E (.ref t.bc) none H':=λe=>qe (by unfold oy;rw[O,e];rfl);refine⟨_,rfl,_,rfl,pw,_,_,_,rfl,rfl,aZ.of CQ,aR (j:=k) (by rw[gs,hz];rfl),?_⟩;refine⟨_,rfl,_,_,rfl,rfl,?_⟩;have ez:∀y:Str,decide (V.str z=V.str y)=decide (z=y):=λy=>by
   by_cases h:z=y;·rw[h];simp
   ·rw[decide_eq_false h];exact decide_eq_false λq=>h (by injection q)
  refine⟨_,rfl,rfl,_,rfl,?_⟩;rw[ez];simp only[oA]at a;by_cases c1:z="("
  ·rw[if_pos c1]at a;rw[decide_eq_true c1];refine bj ?_;refine⟨_,rfl,_,rfl,((k+1:Nat):Int),rfl,_,rfl,_,_,rfl,rfl,((k+1:Nat):Int)+2,rfl,pw,_,rfl,aZ.of CQ,λph hph=>?_⟩;rw[aau _ _ (by rw[R7];omega),<-List.map_drop,<-List.map_take];have t6:=ao hph (.lst (((ws.drop (k+1)).take 2).map V.str));have U0:(upd Y ph (.lst (((ws.drop (k+1)).take 2).map V.str))) ph=some (.lst (((ws.drop (k+1)).take 2).map V.str)):=ah;generalize upd Y ph (.lst (((ws.drop (k+1)).take 2).map V.str))=J at t6 U0⊢;have C:=L.trans t6;refine⟨ph,_,rfl,U0,by rw[jx];omega,λy hy=>(Y8 y (List.mem_of_mem_drop (tR hy))).2,λe W X=>Ul ?_ W (C.trans X),λfo e xn pn W X hx7 hp7 abm F7=>?_⟩;·rw[e]at a;exact a.symm
   rw[e]at a;have a:oA names n ((ws.drop (k+1)).drop (if fo.name=none then 1 else 2)) (fo::st.map (·.2.2))=R:=a;obtain⟨e1,e2,e3,e4,e5⟩:=CS e;have YH:=t6.trans X;have hwo:fo.word.length<=1000:=by rw[e5];unfold nK;cases hh:(ws.drop (k+1)).take 2 with|nil=>decide+kernel|cons y l=>exact(Y8 y (List.mem_of_mem_drop (tR (hh▸bI)))).2
   have S7:=S.push (fo:=fo) (x:=xn) (p:=pn) YH L B CQ (t6.free hp7) F7 e1 e2 hwo e3;have Rf:=YH _ _ B;refine⟨_,rfl, .inl ⟨rfl,_,aZ.of Rf⟩,_,rfl,pf,_,_,rfl,rfl,Rf,(by rw[sizeLine_eq,List.length_reverse,bD];omega),?_⟩;have N:bg pf W (upd W pf (.lst ((st.map λq=>V.ref q.1).reverse++[V.ref xn]))):=bg.upd _;have Yq:(upd W pf (.lst ((st.map λq=>V.ref q.1).reverse++[V.ref xn]))) pf=some (.lst ((st.map λq=>V.ref q.1).reverse++[V.ref xn])):=ah;generalize upd W pf (.lst ((st.map λq=>V.ref q.1).reverse++[V.ref xn]))=H8 at N Yq⊢;have S8:=S7.Pd Rf N;obtain⟨⟨ps8,F8,_⟩,_⟩:=S8.Ft _ bI;dsimp only at F8;obtain⟨dx8,d8,hx8,hd8⟩:=id F8.obj;have aam:H8 pw=some (.lst (ws.map V.str)):=N _ _ UB (YH _ _ CQ);have s8:aE H H8:=λb' o h=>N _ _ (ay h Yj) (YH _ _ (L _ _ h));have YJ:((ws.drop (k+1)).take 2).length<=ws.length-(k+1):=by rw[jx,jP];omega
   have fin:∀c:Nat,c=(if fo.name=none then 1 else 2)->Iw (ws.length-(k+1+c)) [some (.str T),some (.ref b),some (.str dd),some (.ref pw),some (.ref x),some (.ref pf),some (.int ((k+1+c:Nat):Int)),some (.str z),some (.ref xn),cv] H8:=λc hc=>by
    rw[<-hc]at e4 a;refine⟨k+1+c,(xn,pn,fo)::st,_,_,_,rfl,rfl,by omega,S8,?_,aam,s8,U.push,by rw[b_];omega,?_⟩;·rw[Yq,cD,List.reverse_cons]
    ·rw[O,fuel _ _ (by rw[jP];omega),<-a,List.drop_drop];rfl
   refine⟨_,rfl,_,rfl,xn,t.Form,dx8,_,_,rfl,hx8,aK.cls,aK.name,rfl,rfl,_,rfl,?_⟩;cases oZ:fo.name with|none=>exact bj ⟨_,_,rfl,rfl,_,by omega,fin 1 (by rw[oZ,if_pos rfl])⟩|some y=>exact bR ⟨_,_,rfl,rfl,_,by omega,fin 2 (by rw[oZ,if_neg (by simp)])⟩
  rw[if_neg c1]at a;rw[decide_eq_false c1];refine bR ⟨_,rfl,rfl,_,rfl,?_⟩;rw[ez];by_cases c2:z=")"
  ·rw[if_pos c2]at a;rw[decide_eq_true c2];refine bj ?_;refine⟨_,rfl,pf,_,rfl, .inl (aZ.of B),rfl,_,rfl,?_⟩;match st,U,B,a,S,LK with
    |[q0],U,B,a,S,LK=>refine bL (λ_=>?_) (λc=>absurd (decide_eq_true rfl) c);exact⟨by decide,Ul a.symm Y L⟩
    |(xa,pa,fa)::(u,pg,g)::r,U,B,a,S,LK=>
     refine bL (λc=>absurd (of_decide_eq_true c) (by intro z;injection z with z;simp at z;omega)) (λ_=>?_);have a:(if fa.parts.length=fa.i_.length then(match dR g (V7 fa)with|some g'=>oA names n (ws.drop (k+1)) (g'::r.map (·.2.2))|none=>none)else none)=R:=a;have er:((xa,pa,fa)::(u,pg,g)::r).map (λq:Ent=>V.ref q.1)=V.ref xa::((u,pg,g)::r).map (λq:Ent=>V.ref q.1):=rfl;rw[er,List.reverse_cons]at B;refine⟨_,rfl, .inl ⟨rfl,_,aZ.of B⟩,pf,_,_,rfl,rfl,B,(by rw[cS,List.length_singleton,Nat.add_sub_cancel,List.getElem?_append_right (zQ04 _),Nat.sub_self];rfl),?_⟩;rw[List.dropLast_concat];have x6:bg pf Y (upd Y pf (.lst ((((u,pg,g)::r).map (λq:Ent=>V.ref q.1)).reverse))):=bg.upd _;have RK:(upd Y pf (.lst ((((u,pg,g)::r).map (λq:Ent=>V.ref q.1)).reverse))) pf=some (.lst ((((u,pg,g)::r).map (λq:Ent=>V.ref q.1)).reverse)):=ah;generalize upd Y pf (.lst ((((u,pg,g)::r).map (λq:Ent=>V.ref q.1)).reverse))=J at x6 RK⊢;have Z:=S.Pd B x6;have C:aE H J:=λb' o h=>x6 _ _ (ay h Yj) (L _ _ h);have aaJ:J pw=some (.lst (ws.map V.str)):=x6 _ _ UB CQ;obtain⟨⟨ps6,F6,rp6⟩,_⟩:=Z.Ft (xa,pa,fa) bI;have Xw:=Z.le (xa,pa,fa) bI;dsimp only at F6 rp6 Xw;have abo:=rp6.length;have VQ:(fa.i_.map V.str).length=fa.i_.length:=bD _;obtain⟨dx6,d6,hx6,XO⟩:=id F6.obj;refine⟨xa,dx6,_,rfl,hx6,rfl,xa,pa,_,_,_,ps6,rfl,F6,(by omega),λc=>Ul ?_ J C,λc pc W hpc X=>?_⟩;·rw[if_neg (by omega)]at a;exact a.symm
     rw[if_pos (by omega)]at a;have S7:=Z.tail.mono X;have rc:Rep W (V7 fa) (.ref pc):=⟨pc,_,rfl,hpc,_,_,rfl,⟨rfl,Xw.2.2⟩,rp6.mono X⟩;obtain⟨⟨ps7,F7,_⟩,_⟩:=S7.Ft (u,pg,g) bI;dsimp only at F7;obtain⟨dx7,d7,hx7,hd7⟩:=id F7.obj;have s07:=C.trans X;refine⟨_,rfl,_,rfl,pf,_,_,_,rfl,rfl,aZ.of (X _ _ RK),Ef _ _,u,dx7,_,rfl,hx7,rfl,_,rfl,?_⟩;show sv K t.Form t.bc [.ref u, .ref pc] W (λ_ H1=>∃m',m'<ws.length-k/\Iw m' [some (.str T),some (.ref b),some (.str dd),some (.ref pw),some (.ref x),some (.ref pf),some (.int ((k+1:Nat):Int)),some (.str z),fv,some (.ref pc)] H1) E;refine Fi S7 rc rfl (λe=>Ul ?_ W s07) λg' e H8 S8 N=>?_;·rw[e]at a;exact a.symm
     rw[e]at a;have a:oA names n (ws.drop (k+1)) (g'::r.map (·.2.2))=R:=a;obtain⟨_,eg,_⟩:=AX e;have SE:=S7.MD (u,pg,g) bI;have RR:=S7.N6 (u,pg,g) bI;have RT:=S7.fr (u,pg,g) bI;refine⟨_,by omega,k+1,(u,pg,g')::r,_,_,_,rfl,rfl,by omega,S8,N _ _ (Ne.symm SE) (X _ _ RK),N _ _ (Ne.symm RR) (X _ _ aaJ),λb' o h=>N _ _ (ay h RT) (s07 _ _ h),kb.head (q:=(u,pg,g)) U rfl (by rw[eg]),by simp only[b_]at LK⊢;omega,?_⟩;rw[O,fuel _ _ hdl,<-a];rfl
  rw[if_neg c2]at a;rw[decide_eq_false c2];refine bR ?_;match st,U,B,a,S,LK with
   |(u,pg,g)::r,U,B,a,S,LK=>
    have a:(match cZ z names (g::r.map (·.2.2))with|some d=>(match dR g d with|some f'=>oA names n (ws.drop (k+1)) (f'::r.map (·.2.2))|none=>none)|none=>none)=R:=a;obtain⟨⟨ps5,F5,_⟩,_⟩:=S.Ft (u,pg,g) bI;dsimp only at F5;obtain⟨Zq,d5,YW,hd5⟩:=id F5.obj;have hwz:=Y8 z hzm;refine⟨_,rfl,_,rfl,pf,_,_,_,rfl,rfl,aZ.of B,Ef _ _,u,Zq,_,rfl,YW,rfl,_,rfl,_,rfl,_,rfl,pf,b,z,(u,pg,g)::r,names,rfl,B,(by omega),S.Ft,L _ _ hb,L6,hwz.1,hwz.2,λe J C=>Ul ?_ J (L.trans C),λd e v J C r6=>?_⟩;·have e:cZ z names (g::r.map (·.2.2))=none:=e;rw[e]at a;exact a.symm
    have e:cZ z names (g::r.map (·.2.2))=some d:=e;rw[e]at a;have a:(match dR g d with|some f'=>oA names n (ws.drop (k+1)) (f'::r.map (·.2.2))|none=>none)=R:=a;obtain⟨y,ds,hyd⟩:=Ii e;have Z:=S.mono C;have s06:=L.trans C;show sv K t.Form t.bc [.ref u,v] J (λ_ H1=>∃m',m'<ws.length-k/\Iw m' [some (.str T),some (.ref b),some (.str dd),some (.ref pw),some (.ref x),some (.ref pf),some (.int ((k+1:Nat):Int)),some (.str z),fv,cv] H1) E;refine Fi Z r6 hyd (λe=>Ul ?_ J s06) λg' e H8 S8 N=>?_;·rw[e]at a;exact a.symm
    rw[e]at a;have a:oA names n (ws.drop (k+1)) (g'::r.map (·.2.2))=R:=a;obtain⟨_,eg,_⟩:=AX e;have SE:=Z.MD (u,pg,g) bI;have RR:=Z.N6 (u,pg,g) bI;have RT:=Z.fr (u,pg,g) bI;refine⟨_,by omega,k+1,(u,pg,g')::r,_,_,_,rfl,rfl,by omega,S8,N _ _ (Ne.symm SE) (C _ _ B),N _ _ (Ne.symm RR) (C _ _ CQ),λb' o h=>N _ _ (ay h RT) (s06 _ _ h),kb.head (q:=(u,pg,g)) U rfl (by rw[eg]),by simp only[b_]at LK⊢;omega,?_⟩;rw[O,fuel _ _ hdl,<-a];rfl
 ·refine bL (λc=>absurd (of_decide_eq_true c) (by rw[R7];omega)) (λ_=>?_);have hke:k=ws.length:=by omega
  have O:oA names ws.length ws [LJ dd]=some (st.map (·.2.2)):=by rw[<-a,hke,List.drop_length];cases ws.length<;>rfl
  refine⟨_,rfl,pf,_,rfl, .inl (aZ.of B),_,_,rfl,rfl,_,rfl,?_⟩;match st,U,B,O,S with
   |q0::q1::r,_,B,O,S=>refine bL (λ_=>?_) (λc=>absurd (decide_eq_true (by simp;omega)) c);refine bj ⟨by decide,qe ?_ Y L⟩;unfold oy;rw[O];rfl
   |[(x',p0,f0)],U,B,O,S=>
    obtain⟨rfl,Uq⟩:=U;refine bL (λc=>absurd (of_decide_eq_true c) (by simp)) (λ_=>?_);obtain⟨⟨ps,F,rp⟩,_⟩:=S.Ft (x',p0,f0) (by simp);dsimp only at F rp;obtain⟨Zq,d5,YW,hd5⟩:=id F.obj;have kP:=rp.length;have hle:=S.le (x',p0,f0) (by simp);dsimp only at hle;rw[Uq]at hle F;refine⟨_,rfl,x',Zq,_,rfl,YW,rfl,x',p0,_,_,_,_,rfl,F,_,rfl,?_⟩;cases vf:f0.parts with
     |nil=>rw[vf]at rp kP;cases rp;refine bj ⟨by decide,qe ?_ Y L⟩;unfold oy;rw[O];show f0.parts.head?=none;rw[vf];rfl
     |cons d l=>
      rw[vf]at rp kP hle;have :l=[]:=by cases l with|nil=>rfl|cons _ _=>simp at hle
      subst this;obtain⟨v,vs,rfl,rd,e0⟩:=rp;cases e0;obtain⟨rz,q1,q2⟩:=q d (by unfold oy;rw[O];show f0.parts.head?=some d;rw[vf];rfl);refine bR ⟨_,rfl,x',t.Form,Zq,_,_,rfl,YW,aK.cls,aK.parts,rfl,p0,_,_,v,rfl,rfl,aZ.of F.parts,aR (j:=0) rfl,d,v,rfl,rd,rz,λJ C hv=>q1 v J (L.trans C) (rd.mono C) hv,λJ C hv=>q2 J (L.trans C) hv⟩
end K57
end
section
namespace K57
open PySem L2 L3 KM PyProof.Rows
theorem yP:∀(x y:List Nat),eh 32 (x++32::y)=eh 32 x++eh 32 y
 |[],y=>by rw[List.nil_append];show(if 32=32 then[]::eh 32 y else _)=_;rw[if_pos rfl];rfl
 |a::x,y=>by
  have b:=yP x y;rw[List.cons_append];by_cases h:a=32;·rw[eh,if_pos h,b,eh,if_pos h];rfl
  ·rw[eh,if_neg h,b,eh,if_neg h];obtain⟨w,ws,e⟩:=ny 32 x;rw[e];rfl
theorem Tn(x y:List Nat):cP (x++32::y)=cP x++cP y:=by unfold cP;rw[List.flatMap_append,List.flatMap_cons,show sg 32=[32]from rfl,List.singleton_append,yP,List.filter_append]
theorem HY(c:Nat)(h:c=40\/c=41)(x y:List Nat):cP (x++c::y)=cP x++[c]::cP y:=by
 have e:sg c=[32,c,32]:=by rcases h with rfl|rfl<;>rfl
 have n:32∉[c]:=by rcases h with rfl|rfl<;>decide
 unfold cP;rw[List.flatMap_append,List.flatMap_cons,e,show[32,c,32]++y.flatMap sg=32::([c]++32::y.flatMap sg)from rfl,yP,mG n,List.filter_append,List.filter_cons];rfl
theorem J3{l:List Nat}(h:∀c∈l,brk c=false)(n:l≠[]):cP l=[l]:=by
 have b:∀c,brk c=false->c≠32/\c≠10/\c≠40/\c≠41:=λc h=>by unfold brk at h;simp at h;omega
 have e:l.flatMap sg=l:=by clear n;induction l with|nil=>rfl|cons a l d=>have :=b a (h a bI);rw[List.flatMap_cons,d λc hc=>h c (ck _ hc)];unfold sg;rw[if_neg this.2.2.1,if_neg this.2.2.2,if_neg this.2.1];rfl
 unfold cP;rw[e,jL λm=>(b 32 (h 32 m)).1 rfl];cases l with|nil=>exact absurd rfl n|cons a l=>rfl
theorem MM:cP []=[]:=rfl
noncomputable abbrev isNm(z:Str):Bool:=iT (.str z)
theorem il{z:Str}(h:isNm z=true):z.cps.toList≠[]/\z.length<=12/\ba.lookup z=none/\∀c∈z.cps.toList,iY c=true:=by unfold isNm iT at h;rw[bF,bF,bF]at h;refine⟨λe=>?_,by have :=of_decide_eq_true h.2.1;omega,by simpa using h.2.2.1,λc hc=>List.all_eq_true.mp h.2.2.2 c hc⟩;have :=of_decide_eq_true h.1;rw[str_len,e]at this;simp at this
theorem vP{c:Nat}(h:iY c=true):97<=c/\c<=122:=by unfold iY at h;rw[StrLaws.found_one,show abc.cps.toList=[97,98,99,100,101,102,103,104,105,106,107,108,109,110,111,112,113,114,115,116,117,118,119,120,121,122]by decide+kernel]at h;simp at h;omega
theorem Mr{c:Nat}(h:iY c=true):brk c=false:=by have :=vP h;unfold brk;simp;omega
theorem mn{z:Str}(h:isNm z=true):cP z.cps.toList=[z.cps.toList]:=by obtain⟨n,_,_,hl⟩:=il h;exact J3 (λc hc=>Mr (hl c hc)) n
noncomputable def wS(l:List Nat):List Str:=(cP l).map tx
noncomputable def rd(names:List Str)(ws:List Str)(st:List Fo):Option (List Fo):=oA names ws.length ws st
variable{names ws rest:List Str}{st r:List Fo}{fo go f' g':Fo}{d:D}{z:Str}
theorem wu(h:dS (ws.take 2)=some fo):rd names ("("::ws) st=rd names (ws.drop (if fo.name=none then 1 else 2)) (fo::st):=by unfold rd;rw[b_];simp only[oA];rw[if_pos trivial,h];exact lI _ _ _ _ _ (by rw[jP];omega) (zQ04 _)
theorem Ji(h:fo.parts.length=fo.i_.length)(h2:dR go (V7 fo)=some g'):rd names (")"::ws) (fo::go::r)=rd names ws (g'::r):=by unfold rd;rw[b_];simp only[oA];rw[if_neg (by decide+kernel),if_pos trivial,if_pos h,h2]
theorem Nq(a:z≠"(")(b:z≠")")(h:cZ z names (fo::r)=some d)(h2:dR fo d=some f'):rd names (z::ws) (fo::r)=rd names ws (f'::r):=by unfold rd;rw[b_];simp only[oA];rw[if_neg a,if_neg b,h];simp only;rw[h2]
noncomputable def nu:D:= .tup [.str "nat"]
theorem Sg:cZ "nat" names st=some nu:=by unfold cZ;rw[if_pos (by decide+kernel)];rfl
theorem PM(h:isNm z=true):cZ z names st=some (vE z names st 0)/\z≠"("/\z≠")":=by
 obtain⟨n,hl,hr,hc⟩:=il h;have ne:∀w:Str,(ba.lookup w).isSome=true\/(∃c∈w.cps.toList,iY c=false)->z≠w:=λw hw e=>by
  subst e;rcases hw with hw|⟨c,h1,h2⟩;·rw[hr]at hw;cases hw
  ·rw[hc c h1]at h2;cases h2
 have a:nA z=false:=by
  unfold nA;have :z.cps.toList.all wy=false:=by
   cases e:z.cps.toList with
    |nil=>exact absurd e n
    |cons c l=>
     have :=vP (hc c (by rw[e];exact bI));rw[List.all_cons];have :wy c=false:=by unfold wy;simp;omega
     rw[this,Bool.false_and]
  rw[this,Bool.false_and,Bool.and_false]
 refine⟨?_,ne _ (.inr ⟨40,by decide+kernel,by decide+kernel⟩),ne _ (.inr ⟨41,by decide+kernel,by decide+kernel⟩)⟩;unfold cZ;rw[if_neg ?_,if_neg (by rw[a];decide),if_pos h];intro m;simp only[zQ29,zQ14,or_false]at m;rcases m with m|m|m;all_goals exact ne _ (.inl (by decide+kernel)) m
noncomputable def HM(ws:List String):List Str:=ws.map Str.ofString
theorem WY{x y:Str}(h1:bN x≠[])(h2:fQ x BO=false)(l:List Str):dS ((x::y::l).take 2)=some ⟨x,none,bN x,[]⟩:=by unfold dS;exact(if_neg h1).trans ((if_pos h2).trans rfl)
theorem Sf{x:Str}(h1:bN x≠[])(h2:fQ x BO=false):dS ([x].take 2)=some ⟨x,none,bN x,[]⟩:=by unfold dS;exact(if_neg h1).trans ((if_pos h2).trans rfl)
theorem VF{x y:Str}(h1:bN x≠[])(h2:fQ x BO=true)(a:isNm y=true)(l:List Str):dS ((x::y::l).take 2)=some ⟨x,some y,bN x,[]⟩:=by unfold dS;exact(if_neg h1).trans ((if_neg (show¬fQ x BO=false by rw[h2];decide)).trans (if_pos a))
theorem tk{f:Fo}{dd:Str}(h:f.i_[f.parts.length]?=some dd)(e:Ax d=decide (dd="kind")):dR f d=some {f with parts:=f.parts++[d]}:=by unfold dR;rw[h];exact if_pos e
noncomputable def d4(st:List Fo):List Str:=st.filterMap λf=>if rq f=true then f.name else none
theorem IQ(z:Str)(names:List Str):∀(st:List Fo)(b:Nat),vE z names st b=if z∈d4 st then .tup [.str "var", .int ((b+(d4 st).idxOf z:Nat):Int)]else if z∈names then .tup [.str "var", .int ((b+((d4 st).length+names.idxOf z):Nat):Int)]else .tup [.str "name", .str z]
 |[],b=>by simp only[vE,d4,List.filterMap_nil,zQ14,if_false,List.length_nil,Nat.zero_add]
 |f::r,b=>by
  simp only[vE];by_cases hb:rq f=true
  ·rw[if_pos hb];obtain⟨y,c⟩:∃y,f.name=some y:=by unfold rq at hb;cases e:f.name with|none=>rw[e]at hb;cases hb|some y=>exact⟨y,rfl⟩
   have a:d4 (f::r)=y::d4 r:=by unfold d4;rw[mI,if_pos hb,c]
   rw[a,c];by_cases e:y=z;·subst e;rw[if_pos rfl,if_pos bI,List.idxOf_cons_self,Nat.add_zero]
   ·rw[if_neg λq=>e (Option.some.inj q),IQ z names r (b+1)];have hm:z∈y::d4 r↔z∈d4 r:=⟨λh=>(List.mem_cons.mp h).elim (λq=>absurd q.symm e) id,ck _⟩;by_cases h1:z∈d4 r;·rw[if_pos h1,if_pos (hm.mpr h1),List.idxOf_cons,show(y==z)=false by simpa using e,cond_false];congr 4;omega
    ·rw[if_neg h1,if_neg λq=>h1 (hm.mp q),b_];by_cases h2:z∈names;·rw[if_pos h2,if_pos h2];congr 4;omega
     ·rw[if_neg h2,if_neg h2]
  ·rw[if_neg hb];have a:d4 (f::r)=d4 r:=by unfold d4;rw[mI,if_neg hb]
   rw[a];exact IQ z names r b
noncomputable def uu(z:Str)(over names:List Str):D:=if z∈over++names then .tup [.str "var", .int (((over++names).idxOf z:Nat):Int)]else .tup [.str "name", .str z]
theorem Sh(z:Str)(names:List Str)(st:List Fo):vE z names st 0=uu z (d4 st) names:=by
 rw[IQ];unfold uu;by_cases h1:z∈d4 st;·rw[if_pos h1,if_pos (List.mem_append_left _ h1),List.idxOf_append,if_pos h1,Nat.zero_add]
 ·rw[if_neg h1];by_cases h2:z∈names;·rw[if_pos h2,if_pos (kx _ h2),List.idxOf_append,if_neg h1,Nat.zero_add,Nat.add_comm]
  ·rw[if_neg h2,if_neg λq=>(List.mem_append.mp q).elim h1 h2]
end K57
end
section
namespace L3
open PySem PySem.Spec PyProof.Rows L2 KM
noncomputable def CG(z:Str)(lo hi:Option Int):List Nat:=(z.cps.toList.drop (HT.cN z.length 0 lo)).take (HT.cN z.length z.length hi-HT.cN z.length 0 lo)
theorem KI(lo hi:Option Int)(n:Nat):Builtin.Str.strSliceIndices lo hi 1 n=(List.range (HT.cN n n hi-HT.cN n 0 lo)).map (HT.cN n 0 lo+·):=by rw[<-sliceRange_one];unfold Builtin.Str.strSliceIndices;obtain⟨h1,h2,_⟩:=lK lo hi n;rw[<-h1,<-h2];simp only[sliceBounds,Option.getD_none,show(1:Int)>0 by decide,if_true];cases lo<;>cases hi<;>rfl
noncomputable def XW(e:TE)(tl f g:TO):TE:=λσ H Q=>e σ H λx a=>tl σ a λlo b=>f σ b λhi c=>g σ c λst d=>∃z,x= .str z/\z.length<=sizeLine/\st=none/\∀y:Str,y.cps.toList=CG z lo hi->Q (.str y) d
theorem Nt{X:Cx}{e:Expr}{lo hi st:Option Expr}{j Y:Pos}{A:TE}{tl B C:TO}(he:PE X e A)(hl:PO X lo tl)(U:PO X hi B)(ht:PO X st C)(hb:∀o i,∃ops,subscripted (.Slice lo hi st j) false o i=operate ops (getItem o i):=by intro o i;exact⟨_,rfl⟩):PE X (.Subscript e (.Slice lo hi st j) Y) (XW A tl B C):=by
 intro pins s σ H Q I h;refine Subscript_ (bE (he pins s σ H _ I h) λv s1 m=>?_);obtain⟨x,D,G,r1,q1⟩:=m;refine wpAny_Slice (bE (hl pins s1 σ D _ G q1) λvl s2⟨l,E,J,pl,q2⟩=>bE (U pins s2 σ E _ J q2) λvu s3⟨u,F,K,Z,q3⟩=>bE (ht pins s3 σ F _ K q3) λvt d m=>?_);obtain⟨t,n,L,pt,z,O,W,S,q⟩:=m;subst O S;obtain⟨tk,rfl⟩:=r1;obtain⟨f,rfl,P⟩:=part_of pl;obtain⟨g,rfl,R⟩:=part_of Z;obtain⟨a,rfl,p⟩:=part_of pt;have M:Inv X pins σ n {d with heap:=d.heap.push {cls:= .type "slice",data:= .fields #[partValue f,partValue g,partValue a]}}:=L.kept (t':=d.toks) λb ob q=>zQ01 _ q;have r:((a.map (·.1)).getD 1==0)=false:=by rw[p];rfl
 show wpAny (model X.prog X.w) X.A (subscriptTail e (.Slice lo hi st j) (.str z tk) (.ref d.heap.objs.size)) (EP X pins σ Q) X.xe _;obtain⟨ops,hb⟩:=hb (.str z tk) (.ref d.heap.objs.size);refine tail_any (ops:=ops) (T:="str") (typeIs_str _ _ _) PySem.F.slot_str_getitem.lookup (wpAny_getItem_str_slice (l:=f) (u:=g) (st:=a) ⟨_,zQ12 _ rfl,rfl,rfl⟩ r ?_) hb;have ep:slicePicked z f g a=(List.range (HT.cN z.length z.length u-HT.cN z.length 0 l)).map (HT.cN z.length 0 l+·):=by unfold slicePicked;rw[P,R,p];exact KI l u z.length
 have fin:∀y:Str,y.cps.toList=CG z l u->∀t' k,EP X pins σ Q (.str y t') {d with heap:=d.heap.push {cls:= .type "slice",data:= .fields #[partValue f,partValue g,partValue a]},toks:=k}:=λy V t' k=>⟨.str y,n,M.tok k,⟨t',rfl⟩,q y V⟩;have w:z.cps.toList.length=z.length:=rfl;unfold sliceMade;split
 ·rename_i c;rw[bF,ep]at c;have N:HT.cN z.length z.length u-HT.cN z.length 0 l=z.length:=by simpa using c.2
  have :=HT.K2 z.length z.length (zQ04 _) u;refine fin z ?_ _ _;unfold CG;have a0:HT.cN z.length 0 l=0\/z.length=0:=by lia
  rw[N];rcases a0 with a0|a0;·rw[a0,List.drop_zero,rY (by rw[w];exact zQ04 _)]
  ·have :z.cps.toList=[]:=List.length_eq_zero_iff.mp (by rw[w];exact a0);rw[this];simp
 ·refine⟨?_,fin _ ?_ _ _⟩;·refine cw ?_ W;show(List.filterMap _ (slicePicked z f g a)).toArray.size<=z.length;rw[cC];refine cw (List.length_filterMap_le _ _) ?_;exact sliceIndicesBy_le _ _ _ (by simpa using r) z.length
  ·show(slicePicked z f g a).filterMap (z.cps[·]?)=_;rw[ep,pick_run];rfl
theorem Mh(n:Nat):(Str.ofString (toString ((n:Nat):Int))).cps.toList=(Nat.toDigits 10 n).map Char.toNat:=by show(Str.ofString (toString n)).cps.toList=_;rw[Nat.toString_eq_ofList_toDigits,PySem.Str.ofString_eq_toList];simp
theorem Mj{n k:Nat}(a:0<k)(h:n<10^k):1<=(Str.ofString (toString ((n:Nat):Int))).cps.toList.length/\(Str.ofString (toString ((n:Nat):Int))).cps.toList.length<=k:=by rw[Mh,bD];exact⟨Nat.length_toDigits_pos,(Nat.length_toDigits_le_iff (by decide) a).mpr h⟩
end L3
end
section
namespace K57
open PySem L2 L3 KM PyProof.Rows
seal L2.PE L2.PS L2.kM L2.PT L2.PW L2.PA L2.PG L2.BA L2.PI L2.PC L2.PO L2.G0 L2.PK L3.Bc L3.J9 L3.LC L3.lH L3.Ui
variable{P:Program}{w:World}{K:PySem.W.Frag}{mg:Str->Option Value}{base:Heap}{t:Aq}
structure Sml(d:D)(k n:Nat):Prop where
 wf:dC aS false d=true
 dp:depth d<=k
 kn:aD d<=n
def Hi(dd:Str)(K:PySem.W.Frag)(N G:Addr):Sp:=λvs H Q E=>∃(T:Str)(b:Addr),vs=[.str T, .ref b]/\qD K N G [.str T, .ref b, .str dd] H Q E
theorem yS:aG ["text","names"] ["text","names"] (ak gL):=⟨rfl,rfl,rfl,by decide+kernel,rfl,by decide+kernel,by decide+kernel⟩
theorem A9(D:Df K mg "read_term" gL ["text","names"])(M:Mg mg t)(a:xI P w K mg (gO P w) "read_thing" 66 ["text","names","due"] (qD K t.bc t.gJ)):bu P w K mg (gO P w) "read_term" (67) ["text","names"] (Hi "term" K t.bc t.gJ):=by
 refine D.LY yS (λvs H Q E h=>?_) (λbase f bS A outer s H vs Q E hr h=>?_);·obtain⟨T,b,rfl,_⟩:=h;rfl
 obtain⟨T,b,rfl,h⟩:=h;exact⟨_,(ai (aA (Jn a hr.m rfl e_ (lO (pv 0) (lO (pv 1) FX))))),⟨_,rfl,_,rfl,h⟩⟩
theorem xb:aG ["text","names"] ["text","names"] (ak gB):=⟨rfl,rfl,rfl,by decide+kernel,rfl,by decide+kernel,by decide+kernel⟩
theorem AA(D:Df K mg "read_kind" gB ["text","names"])(M:Mg mg t)(a:xI P w K mg (gO P w) "read_thing" 66 ["text","names","due"] (qD K t.bc t.gJ)):bu P w K mg (gO P w) "read_kind" (67) ["text","names"] (Hi "kind" K t.bc t.gJ):=by
 refine D.LY xb (λvs H Q E h=>?_) (λbase f bS A outer s H vs Q E hr h=>?_);·obtain⟨T,b,rfl,_⟩:=h;rfl
 obtain⟨T,b,rfl,h⟩:=h;exact⟨_,(ai (aA (Jn a hr.m rfl e_ (lO (pv 0) (lO (pv 1) FX))))),⟨_,rfl,_,rfl,h⟩⟩
theorem big{m:Nat}(h:m<=1000):m<=sizeLine:=cw h (by decide)
theorem CY(a b:Str):(a++b).cps.toList=a.cps.toList++b.cps.toList:=by show(a.cps++b.cps).toList=_;exact Array.toList_append
noncomputable def YZ:List Str:=["nat","none","all","some","same","var","fun","app","zero","next","rec","like","carry","never","pair","first","second","name"]
theorem Hw(z:Str):ba.lookup z=none↔z∉YZ:=by
 have e:YZ=ba.map (·.1):=by decide+kernel
 rw[e];generalize ba=a;induction a with
  |nil=>simp
  |cons r a b=>
   rw[jk,cD,zQ29];by_cases h:z=r.1;·rw[show(z==r.1)=true by simpa using h];simp[h]
   ·rw[show(z==r.1)=false by simpa using h];simp only[h,false_or];exact b
theorem Xj{z:Str}(h1:z.cps.toList≠[])(h2:z.length<=12)(h3:∀c∈z.cps.toList,iY c=true)(h4:z∉YZ):isNm z=true:=by
 have :1<=z.length:=by rw[str_len];cases e:z.cps.toList with|nil=>exact absurd e h1|cons a l=>simp
 show(decide ((1:Int)<=z.length)&&(decide ((z.length:Int)<=12)&&((ba.lookup z).isNone&&z.cps.toList.all iY)))=true;rw[decide_eq_true (by omega),decide_eq_true (by omega),(Hw z).mpr h4,Bool.true_and,Bool.true_and];exact List.all_eq_true.mpr h3
end K57
end
section
namespace K57
open PySem L2 L3 KM PyProof.Rows
structure He(scope:List Str)(k:Bool)(d:D)(ws:List Str):Prop where
 kd:Ax d=k
 wf:dC aS k d=true
 cm:cI d=true
 wd:∀y∈ws,1<=y.length/\y.length<=12
 br:∀y∈ws,cP y.cps.toList=[y.cps.toList]
 rd:∀(names:List Str)(fo:Fo)(r:List Fo)(f':Fo)(rest:List Str),d4 (fo::r)++names=scope->dR fo d=some f'->rd names (ws++rest) (fo::r)=rd names rest (f'::r)
theorem mO{scope:List Str}{k:Bool}{d:D}{z:Str}(h1:Ax d=k)(h2:dC aS k d=true)(h3:cI d=true)(h4:1<=z.length/\z.length<=12)(h5:cP z.cps.toList=[z.cps.toList])(b:z≠"(")(c:z≠")")(h6:∀(names:List Str)(st:List Fo),d4 st++names=scope->cZ z names st=some d):He scope k d [z]:=⟨h1,h2,h3,λy a=>by rw[List.mem_singleton.mp a];exact h4,λy a=>by rw[List.mem_singleton.mp a];exact h5,λnames fo r f' rest e ht=>Nq b c (h6 names _ e) ht⟩
structure Gq(scope:List Str)(x:Str)(bn:Option Str)(ps:List D)(ws:List Str):Prop where
 le:ps.length<=(bN x).length
 wf:∀(i:Nat)(p:D),ps[i]?=some p->∃dd:Str,(bN x)[i]?=some dd/\Ax p=decide (dd="kind")/\dC aS (decide (dd="kind")) p=true
 cm:ju ps=true
 wd:∀y∈ws,1<=y.length/\y.length<=12
 br:∀y∈ws,cP y.cps.toList=[y.cps.toList]
 rd:∀(names:List Str)(st:List Fo)(rest:List Str),d4 st++names=scope->rd names (ws++rest) st=rd names rest (⟨x,bn,bN x,ps⟩::st)
noncomputable def Zp(scope:List Str)(x:Str)(bn:Option Str)(i:Nat):List Str:=match bn with|some n=>if dw x= .int (i:Nat)then n::scope else scope|none=>scope
theorem Ih{x:Str}{bn:Option Str}{ps:List D}{st:List Fo}{names scope:List Str}(h:d4 st++names=scope):d4 (⟨x,bn,bN x,ps⟩::st)++names=Zp scope x bn ps.length:=by
 cases bn with
  |none=>
   have a:d4 (⟨x,none,bN x,ps⟩::st)=d4 st:=by unfold d4;rw[mI];rfl
   rw[a];exact h
  |some n=>
   by_cases c:dw x= .int ((ps.length:Nat):Int)
   ·have hb:rq ⟨x,some n,bN x,ps⟩=true:=by show(true&&decide (dw x= .int ((ps.length:Nat):Int)))=true;rw[decide_eq_true c];rfl
    have a:d4 (⟨x,some n,bN x,ps⟩::st)=n::d4 st:=by unfold d4;rw[mI,if_pos hb]
    rw[a,List.cons_append,h];show _=(if dw x= .int ((ps.length:Nat):Int)then n::scope else scope);rw[if_pos c]
   ·have hb:¬rq ⟨x,some n,bN x,ps⟩=true:=by show¬(true&&decide (dw x= .int ((ps.length:Nat):Int)))=true;rw[decide_eq_false c];decide
    have a:d4 (⟨x,some n,bN x,ps⟩::st)=d4 st:=by unfold d4;rw[mI,if_neg hb]
    rw[a,h];show _=(if dw x= .int ((ps.length:Nat):Int)then n::scope else scope);rw[if_neg c]
theorem Gq.next{scope:List Str}{x:Str}{bn:Option Str}{ps:List D}{ws f:List Str}{k:Bool}{d:D}{dd:Str}(P:Gq scope x bn ps ws)(hd:(bN x)[ps.length]?=some dd)(c:k=decide (dd="kind"))(G:He (Zp scope x bn ps.length) k d f):Gq scope x bn (ps++[d]) (ws++f):=by
 have lt:ps.length<(bN x).length:=(List.getElem?_eq_some_iff.mp hd).1;refine⟨by rw[cS,List.length_singleton];exact lt,λi p e=>?_,?_,λy b=>?_,λy b=>?_,λnames st rest e=>?_⟩
 ·by_cases hi:i<ps.length;·rw[List.getElem?_append_left hi]at e;exact P.wf i p e
  ·rw[List.getElem?_append_right (by omega)]at e;have j:i-ps.length=0:=by cases h:i-ps.length with|zero=>rfl|succ n=>rw[h]at e;simp at e
   rw[j]at e;cases e;have m:i=ps.length:=by omega
   subst m;subst c;exact⟨dd,hd,G.kd,G.wf⟩
 ·have g:∀(l:List D),ju l=true->ju (l++[d])=true:=λl=>by induction l with|nil=>intro _;show(cI d&&true)=true;rw[G.cm];rfl|cons a l o=>intro h;have h:(cI a&&ju l)=true:=h;rw[bF]at h;show(cI a&&ju (l++[d]))=true;rw[h.1,o h.2];rfl
  exact g ps P.cm
 ·rcases List.mem_append.mp b with h|h;·exact P.wd y h
  ·exact G.wd y h
 ·rcases List.mem_append.mp b with h|h;·exact P.br y h
  ·exact G.br y h
 ·rw[List.append_assoc,P.rd names st _ e];exact G.rd names _ st _ rest (Ih e) (tk hd (by rw[G.kd,c]))
theorem Gq.UD{scope:List Str}{x:Str}(h1:bN x≠[])(h2:fQ x BO=false)(h3:1<=x.length/\x.length<=12)(h4:cP x.cps.toList=[x.cps.toList]):Gq scope x none [] (HM ["("]++[x]):=by
 refine⟨zQ25 _,λi p e=>by simp at e,rfl,λy a=>?_,λy a=>?_,λnames st rest e=>?_⟩
 ·simp only[HM,cD,List.map_nil,List.cons_append,List.nil_append,zQ29,zQ14,or_false]at a;rcases a with rfl|rfl;·exact⟨by decide+kernel,by decide+kernel⟩
  ·exact h3
 ·simp only[HM,cD,List.map_nil,List.cons_append,List.nil_append,zQ29,zQ14,or_false]at a;rcases a with rfl|rfl;·decide+kernel
  ·exact h4
 ·show K57.rd names ("("::x::rest) st=_;cases rest with|nil=>rw[wu (Sf h1 h2)];rfl|cons y l=>rw[wu (WY h1 h2 l)];rfl
theorem Gq.XJ{scope:List Str}{x n:Str}(h1:bN x≠[])(h2:fQ x BO=true)(h3:1<=x.length/\x.length<=12)(h4:cP x.cps.toList=[x.cps.toList])(hn:isNm n=true):Gq scope x (some n) [] (HM ["("]++[x]++[n]):=by
 have c:=il hn;have d:1<=n.length:=by rw[str_len];cases e:n.cps.toList with|nil=>exact absurd e c.1|cons a l=>simp
 refine⟨zQ25 _,λi p e=>by simp at e,rfl,λy b=>?_,λy b=>?_,λnames st rest e=>?_⟩
 ·simp only[HM,cD,List.map_nil,List.cons_append,List.nil_append,zQ29,zQ14,or_false]at b;rcases b with rfl|rfl|rfl;·exact⟨by decide+kernel,by decide+kernel⟩
  ·exact h3
  ·exact⟨d,c.2.1⟩
 ·simp only[HM,cD,List.map_nil,List.cons_append,List.nil_append,zQ29,zQ14,or_false]at b;rcases b with rfl|rfl|rfl;·decide+kernel
  ·exact h4
  ·exact mn hn
 ·show K57.rd names ("("::x::n::rest) st=_;rw[wu (VF h1 h2 hn rest)];rfl
theorem DX{x:Str}:∀(cs:List Nat)(ps:List D)(ds:List Str),ds=cs.map (λc=>if c=107 then Str.ofString "kind"else"term")->(∀c∈cs,c=107\/c=116)->ps.length=ds.length->(∀(i:Nat)(p:D),ps[i]?=some p->∃dd:Str,ds[i]?=some dd/\Ax p=decide (dd="kind")/\dC aS (decide (dd="kind")) p=true)->mV aS cs ps=true
 |[],[],_,_,_,_,_=>rfl
 |[],_::_,_,rfl,_,h,_=>by simp at h
 |_::_,[],_,rfl,_,h,_=>by simp at h
 |c::cs,p::ps,_,rfl,hc,h,d=>by
  obtain⟨dd,a,_,b⟩:=d 0 p rfl;have f:=DX (x:=x) cs ps _ rfl (λc h=>hc c (ck _ h)) (by simpa using h) λi q e=>d (i+1) q e;rw[bM,f,Bool.and_true];have a:(if c=107 then Str.ofString "kind"else"term")=dd:=Option.some.inj a;unfold iX;rcases hc c bI with rfl|rfl;·rw[if_pos rfl]at a⊢;subst a;exact b
  ·rw[if_neg (by decide)]at a;rw[if_neg (by decide),if_pos rfl];subst a;exact b
noncomputable def kZ:List Str:=["all","some","same","fun","app","next","rec","like","carry","never","pair","first","second"]
noncomputable def dY(x:Str):Bool:=decide (x∈(["all","some","same"]:List Str))
theorem sf:(kZ.all λx=>decide (bN x≠[])&&(decide (x.length<=12)&&(decide (1<=x.length)&&(decide (cP x.cps.toList=[x.cps.toList])&&((dE x==dY x)&&((PyData.str x).canLay0&&(match cO x with| .str s=>decide (bN x=s.cps.toList.map (λc=>if c=107 then Str.ofString "kind"else"term"))&&s.cps.toList.all (λc=>decide (c=107\/c=116))|_=>false)))))))=true:=by decide+kernel
theorem Gq.close{scope:List Str}{x:Str}{bn:Option Str}{ps:List D}{ws:List Str}(f:x∈kZ)(P:Gq scope x bn ps ws)(hl:ps.length=(bN x).length):He scope (dY x) (.tup (.str x::ps)) (ws++HM [")"]):=by
 have h:=List.all_eq_true.mp sf x f;simp only[bF]at h;obtain⟨h1,h2,h3,h4,h5,h6,a⟩:=h;have d:dE x=dY x:=by simpa using h5
 refine⟨d,?_,?_,λy b=>?_,λy b=>?_,λnames fo r f' rest e ht=>?_⟩;·cases es:cO x with|str s=>rw[es]at a;rw[bF]at a;refine iN es d (DX (x:=x) _ _ _ (of_decide_eq_true a.1) (λc hc=>of_decide_eq_true (List.all_eq_true.mp a.2 c hc)) hl P.wf)|_=>rw[es]at a;cases a
 ·show((PyData.str x).canLay0&&ju ps)=true;rw[h6,P.cm];rfl
 ·rcases List.mem_append.mp b with h|h;·exact P.wd y h
  ·have :y=")":=by simpa[HM]using h
   rw[this];exact⟨by decide+kernel,by decide+kernel⟩
 ·rcases List.mem_append.mp b with h|h;·exact P.br y h
  ·have :y=")":=by simpa[HM]using h
   rw[this];decide+kernel
 ·rw[List.append_assoc,P.rd names (fo::r) _ e];exact Ji hl ht
end K57
end
section
namespace K57
open PySem L2 L3 KM PyProof.Rows
seal L2.PE L2.PS L2.kM L2.PT L2.PW L2.PA L2.PG L2.BA L2.PI L2.PC L2.PO L2.G0 L2.PK L3.Bc
variable{P:Program}{w:World}{K:PySem.W.Frag}{mg:Str->Option Value}{base:Heap}{t:Aq}
theorem A3:aG ["thing"] ["thing"] (ak eC):=⟨rfl,rfl,rfl,by decide+kernel,rfl,by decide+kernel,by decide+kernel⟩
theorem Ba{n:Nat}(D:Df K mg "depth_of" eC ["thing"])(M:Mg mg t)(z:bu P w K mg bx "kids_of" (1) ["thing"] fR)(u:bu P w K mg bx "depth_of" (n+3) ["thing"] (Ed n)):bu P w K mg bx "depth_of" (n+4) ["thing"] (Ed (n+1)):=by
 refine D.ok A3 (λvs H Q E h=>?_) (λbase f bS A outer s H vs Q E hr h=>?_);·obtain⟨d,v,rfl,_⟩:=h;rfl
 obtain⟨d,v,rfl,r,o,q⟩:=h;obtain⟨x,ps,k,rfl,wf,I⟩:=jy o.wf;have F:=uT wf;refine⟨_,(ai (aA (aN dN aj (FY M.FU (aa (eO (N':=["kid"]) (own:=1) (fr:=[]) rfl (fY (N:=["thing"]) (sc:=ak eC) rfl rfl rfl (by decide+kernel)) (iC (aO z hr.m rfl aQ (aa (pv 0) af))) (cU (by decide)) (λ_ _ _=>(bb (i:=0) (show List.Nodup (["kid"]:List Str)by decide+kernel) rfl (Or.inl rfl))) (λ_ _ _=>gH) (λ_ _ _=>(aO u hr.m rfl aQ (aa (pv 0) af)))) af) (Fb aj Ij))))),?_⟩;try dsimp only[iF,X]
 refine⟨_,rfl,x,ps,v,rfl,r,I,λL us U _ s1 h1 m=>⟨L,rfl,⟨us,aZ.of h1⟩,λO G=>?_⟩⟩;have Y:=m.length;refine eG (av x ps).length (λi=>V.int (depth (((av x ps)[i]?).getD .bA):Nat)) G (cw F (by decide)) (λi a hi s2=>?_) λa s2 h2=>⟨⟨us,aZ.of (s2 _ _ h1),by omega⟩,?_⟩;·obtain⟨b,c⟩:∃b,(av x ps)[i]?=some b:=⟨_,zQ03 hi⟩;obtain⟨p,j,S⟩:=m.get c;refine⟨⟨us,p,aZ.of (s2 _ _ h1),j⟩,?_⟩;rintro y W⟨rfl,J⟩R g;have l:=J us (aZ.of (s2 _ _ h1));rw[j]at l;cases l;rw[c]at g;exact⟨_,rfl,b,p,rfl,S.mono s2,o.kid c,λB T=>g B T⟩
 ·rw[(cc wf).2]at q;refine⟨O,_,0,rfl,rfl,NV h2,_,_,rfl,rfl,?_⟩;have :=q a (s1.trans s2);have C:maxD ((av x ps).map λd=>((depth d:Nat):Int)) 0=((pK ((av x ps).map depth):Nat):Int):=by rw[<-IX,List.map_map];rfl
  have e:(1:Int)+((pK ((av x ps).map depth):Nat):Int)=((1+pK ((av x ps).map depth):Nat):Int):=by omega
  show Q (V.int (1+maxD ((av x ps).map λd=>((depth d:Nat):Int)) 0)) a;rw[C];rw[e];exact this
theorem tT(D:Df K mg "depth_of" eC ["thing"])(M:Mg mg t)(a:bu P w K mg bx "kids_of" (1) ["thing"] fR):∀n:Nat,bu P w K mg bx "depth_of" (n+3) ["thing"] (Ed n)|0=>bu.never D λvs H Q E⟨d,v,_,_,h,_⟩=>absurd h.dp (Nat.not_lt_zero _)|n+1=>Ba D M a (tT D M a n)
end K57
end
section
namespace SR
open PySem PySem.Spec PyProof.Rows
noncomputable abbrev kv(x:Keyed):Int:=numOf x.1
section
variable{prog:Program}{w:World}{A:Around}{E:Value->Shared->Prop}{s:Shared}
end
structure SB(tI:Array Keyed)(p:Array (Nat×Nat×Nat))(st:SortSt):Prop where
 perm:(arrOf st).Perm tI
 kind:kindOf st=oneType'
 failed:failedOf st=none
 pend:pendingOf st=p
variable{tI:Array Keyed}{p:Array (Nat×Nat×Nat)}
def Srt(xs:Array Keyed)(lo hi:Nat):Prop:=∀i j,lo<=i->i<=j->j<hi->K xs i<=K xs j
section
variable{prog:Program}{w:World}{A:Around}{E:Value->Shared->Prop}{s:Shared}
end
end SR
end
section
namespace SR
open PySem PySem.Spec PyProof.Rows
structure IL(R:Keyed->Keyed->Prop)(out ca ra cb rb:List Keyed):Prop where
 perm:out.Perm (ca++cb)
 srt:out.Pairwise R
 low:∀x,x∈out->∀y,y∈ra\/y∈rb->R x y
variable{R:Keyed->Keyed->Prop}{out ca ra cb rb:List Keyed}
noncomputable abbrev Le(x y:Keyed):Prop:=kv x<=kv y
variable{a b o:Array Keyed}{ia ib na nb:Nat}
def Mg(a b r:Array Keyed):Prop:=r.toList.Perm (a.toList++b.toList)/\r.toList.Pairwise Le
end SR
end
section
namespace SR
open PySem PySem.Spec PyProof.Rows
structure Sam(st mX:SortSt):Prop where
 kind:kindOf mX=kindOf st
 arr:arrOf mX=arrOf st
 pend:pendingOf mX=pendingOf st
 failed:failedOf mX=failedOf st
variable{a b o:Array Keyed}{ia ib na nb:Nat}
section
variable{prog:Program}{w:World}{A:Around}{E:Value->Shared->Prop}{s:Shared}
end
end SR
end
section
namespace SR
open PySem PySem.Spec PyProof.Rows
variable{a b o:Array Keyed}{ia ib na nb:Nat}
section
variable{prog:Program}{w:World}{A:Around}{E:Value->Shared->Prop}{s:Shared}
end
end SR
end
section
namespace SR
open PySem PySem.Spec PyProof.Rows
section
variable{prog:Program}{w:World}{A:Around}{E:Value->Shared->Prop}{s:Shared}{tI:Array Keyed}
end
section
variable{prog:Program}{w:World}{A:Around}{E:Value->Shared->Prop}{s:Shared}{tI:Array Keyed}
noncomputable def lG(tI:Array Keyed)(st:SortSt):Prop:=(SB tI #[(0,tI.size,0)] st/\Srt (arrOf st) 0 tI.size)\/∃a b pw,SB tI #[(0,a,pw),(a,b,0)] st/\a+b=tI.size/\1<=a/\1<=b/\Srt (arrOf st) 0 a/\Srt (arrOf st) a tI.size
end
def Hu(xs:Array Nat):Prop:=xs.toList.Pairwise (·<·)
theorem Hu.lt{xs:Array Nat}(h:Hu xs){i j:Nat}(a:i<j)(hj:j<xs.size):xs.getD i 0<xs.getD j 0:=by have :=List.pairwise_iff_getElem.mp h i j (by rw[Array.length_toList];omega) (by rw[Array.length_toList];omega) a;rw[Array.getD_eq_getD_getElem?,Array.getD_eq_getD_getElem?,getElem?_pos xs i (by omega),getElem?_pos xs j hj];exact this
theorem getD_in{xs:Array Nat}{i a b:Nat}(h:i<xs.size):xs.getD i a=xs.getD i b:=by rw[Array.getD_eq_getD_getElem?,Array.getD_eq_getD_getElem?,getElem?_pos xs i h];rfl
theorem sX{xs:Array Nat}(hr:Hu xs)(j:Nat):∀(fuel lo hi:Nat),lo<=hi->hi<=xs.size->hi-lo<=fuel->(∀i,i<lo->xs.getD i 0<j)->(∀i,hi<=i->i<xs.size->j<=xs.getD i 0)->SetTable.below.go xs j fuel lo hi<=xs.size/\(∀i,i<SetTable.below.go xs j fuel lo hi->xs.getD i 0<j)/\(∀i,SetTable.below.go xs j fuel lo hi<=i->i<xs.size->j<=xs.getD i 0)
 |0,lo,hi,h1,h2,h3,h4,h5=>by
  have :lo=hi:=by omega
  subst this;exact⟨h2,h4,h5⟩
 |fuel+1,lo,hi,h1,h2,h3,h4,h5=>by
  unfold SetTable.below.go;by_cases hl:lo<hi
  ·rw[if_pos hl];dsimp only;have hm:(lo+hi)/2<xs.size:=by omega
   rw[getD_in (b:=0) hm];by_cases hc:xs.getD ((lo+hi)/2) 0<j
   ·rw[if_pos hc];refine sX hr j fuel _ hi (by omega) h2 (by omega) (λi a=>?_) h5;by_cases e:i=(lo+hi)/2;·subst e;exact hc
    ·exact Nat.lt_trans (hr.lt (j:=(lo+hi)/2) (by omega) hm) hc
   ·rw[if_neg hc];refine sX hr j fuel lo _ (by omega) (by omega) (by omega) h4 λi a c=>?_;by_cases e:i=(lo+hi)/2;·subst e;omega
    ·exact Nat.le_of_lt (Nat.lt_of_le_of_lt (Nat.not_lt.mp hc) (hr.lt (i:=(lo+hi)/2) (by omega) c))
  ·rw[if_neg hl];have :lo=hi:=by omega
   subst this;exact⟨h2,h4,h5⟩
theorem tG{xs:Array Nat}(hr:Hu xs)(j:Nat):SetTable.below xs j<=xs.size/\(∀i,i<SetTable.below xs j->xs.getD i 0<j)/\(∀i,SetTable.below xs j<=i->i<xs.size->j<=xs.getD i 0):=sX hr j xs.size 0 xs.size (zQ25 _) (zQ04 _) (by omega) (λi hi=>by omega) λi h1 h2=>by omega
theorem DU{xs:Array Nat}(hr:Hu xs){j:Nat}(hj:xs[SetTable.below xs j]?≠some j):Hu (SetTable.insertAt xs (SetTable.below xs j) j):=by
 obtain⟨f,c,d⟩:=tG hr j;unfold Hu;rw[SetTable.toList_insertAt];have lo:∀x,x∈xs.toList.take (SetTable.below xs j)->x<j:=λx b=>by obtain⟨k,a,e⟩:=List.getElem_of_mem b;rw[List.getElem_take]at e;rw[jx,Array.length_toList]at a;have :=c k (by omega);rw[Array.getD_eq_getD_getElem?,getElem?_pos xs k (by omega)]at this;rw[<-e];exact this
 have hi:∀x,x∈xs.toList.drop (SetTable.below xs j)->j<x:=λx b=>by
  obtain⟨k,a,e⟩:=List.getElem_of_mem b;rw[List.getElem_drop]at e;rw[jP,Array.length_toList]at a;have hb:SetTable.below xs j<xs.size:=by omega
  have g:=d (SetTable.below xs j) (zQ04 _) hb;have hne:xs.getD (SetTable.below xs j) 0≠j:=λz=>hj (by rw[Array.getD_eq_getD_getElem?,getElem?_pos xs _ hb]at z;rw[getElem?_pos xs _ hb];exact congrArg some z);have h1:xs.getD (SetTable.below xs j) 0<=xs.getD (SetTable.below xs j+k) 0:=by
   by_cases z:k=0;·subst z;exact zQ04 _
   ·exact Nat.le_of_lt (hr.lt (by omega) (by omega))
  have h2:xs.getD (SetTable.below xs j+k) 0=x:=by rw[Array.getD_eq_getD_getElem?,getElem?_pos xs _ (by omega)];exact e
  omega
 have whole:=hr;unfold Hu at whole;rw[<-List.take_append_drop (SetTable.below xs j) xs.toList]at whole;obtain⟨h,i,l⟩:=List.pairwise_append.mp whole;refine List.pairwise_append.mpr ⟨?_,?_,?_⟩<;>simp_all[List.pairwise_append,List.pairwise_cons]
theorem Gv(n:Nat):Hu (Array.range n):=by unfold Hu;rw[Array.toList_range];exact List.pairwise_lt_range
structure Tbl(led:Bool)(t:SetTable):Prop where
 led:t.led=led
 ZQ:t.dummies=#[]
 Zv:Hu t.place
theorem Tbl.FO{led:Bool}{t:SetTable}(h:Tbl led t)(n:Nat):Tbl led (t.standIn n):=⟨h.led,rfl,Gv n⟩
theorem Tbl.MH{led:Bool}{t:SetTable}(h:Tbl led t)(n:Nat):Tbl led (t.orStandIn n):=by
 unfold SetTable.orStandIn;split;·exact h
 ·exact h.FO n
theorem uI{t:SetTable}(h:t.dummies=#[])(j:Nat):t.slot j≠ .dummy:=by
 unfold SetTable.slot SetTable.has;rw[h];dsimp only;split;·exactλz=>nomatch z
 ·rw[if_neg (by simp)];exactλz=>nomatch z
theorem oU{t:SetTable}(hd:t.dummies=#[]){f:Nat->Int}{h:Int}{j:Nat}{d:Option Nat}:∀(fuel:Nat)(p:SetTable.Probe),p.dummy=none->SetTable.probe.go t f h fuel p=some (.empty j d)->d=none/\t.slot j= .empty
 |0,p,_,e=>by unfold SetTable.probe.go at e;cases e
 |fuel+1,p,b,e=>by
  unfold SetTable.probe.go at e;have c:(t.advance p).dummy=none:=by unfold SetTable.advance;split<;>exact b
  cases a:t.slot p.j with
   |empty=>rw[a]at e;cases e;exact⟨b,a⟩
   |dummy=>exact absurd a (uI hd _)
   |live i=>
    rw[a]at e;dsimp only at e;split at e;·cases e
    ·exact oU hd fuel _ c e
theorem Tbl.lay{led:Bool}{t:SetTable}(h:Tbl led t)(es:Array (Int×Value))(a:Int)(x:Value):Tbl led (layNew t es a x).2.1:=by
 unfold layNew;cases e:t.freeSlot a with
  |none=>exact h.FO _
  |some r=>
   obtain⟨slot,wd⟩:=r;dsimp only;refine Tbl.MH ?_ _;have :t.slot slot= .empty:=by unfold SetTable.freeSlot at e;cases b:t.probe (λ_=>a+1) a (t.probeStart a)with|none=>rw[b]at e;cases e|some m=>rw[b]at e;cases m with|candidate=>cases e|empty j d=>obtain⟨c,f⟩:=oU h.ZQ _ _ rfl b;subst c;cases e;exact f
   have hne:t.place[SetTable.below t.place slot]?≠some slot:=λz=>by unfold SetTable.slot at this;dsimp only at this;rw[if_pos (by rw[z];exact beq_self_eq_true _)]at this;cases this
   refine⟨h.led,?_,DU h.Zv hne⟩;show(if SetTable.has t.dummies slot then _ else t.dummies)=_;rw[h.ZQ,if_neg (by unfold SetTable.has;simp)]
theorem tM{b:Type}(f:Nat->Option b):∀l:List Nat,((l.filterMap λj=>(f j).map λa=>(j,a)).map (·.1)).Sublist l|[]=>List.Sublist.refl _|j::l=>by rw[mI];cases e:f j with|none=>exact(tM f l).cons _|some a=>exact(tM f l).cons₂ _
theorem Tbl.UA{led:Bool}{t:SetTable}(h:Tbl led t)(es:Array (Int×Value))(n:Nat):Tbl led (relayAll t es n).2.1:=by
 unfold relayAll SetTable.relaid SetTable.laid;cases SetTable.layClean (SetTable.sizeAbove n-1) (es.map (·.1))with
  |none=>exact h.FO _
  |some a=>
   dsimp only[Option.bind_eq_bind,Option.bind_some,Option.pure_def];split;·exact⟨h.led,rfl,List.Pairwise.sublist (tM (λj=>a.getD j none) _) List.pairwise_lt_range⟩
   ·exact h.FO _
theorem Tbl.fresh(led:Bool):Tbl led (.fresh 0 0 led):=⟨rfl,rfl,List.Pairwise.nil⟩
theorem Tbl.plain{led:Bool}{t:SetTable}(h:Tbl led t):Tbl led {t with plain:=false}:=⟨h.led,h.ZQ,h.Zv⟩
noncomputable abbrev sobj(es:Array (Int×Value))(ep:Nat)(t:SetTable):Obj:={cls:= .type "set",dict:=none,data:= .set es ep t}
noncomputable abbrev ledW(w:World):Bool:=!w.params.followText "set-order"
noncomputable def keysOf(es:Array (Int×Value)):List Int:=es.toList.map λe=>numOf e.2
noncomputable def SetI(prog:Program)(w:World)(h:Heap)(a:Addr)(ks:List Int):Prop:=∃es ep t,h.get? a=some (sobj es ep t)/\ElemsOf (intKind prog w) es.toList/\(keysOf es).Perm ks/\es.size<scanBound/\t.fits es.size=true/\Tbl (ledW w) t
section
variable{prog:Program}{w:World}{A:Around}{E:Value->Shared->Prop}{s:Shared}{a:Addr}{ks:List Int}
theorem SetI.keep{h h':Heap}(S:SetI prog w h a ks)(k:∀o,h.get? a=some o->h'.get? a=some o):SetI prog w h' a ks:=let⟨es,ep,t,ho,r⟩:=S;⟨es,ep,t,k _ ho,r⟩
theorem Lc(es:Array (Int×Value)):(keysOf es).length=es.size:=by unfold keysOf;rw[bD,Array.length_toList]
theorem M8{l:List (Int×Value)}(d:ElemsOf (intKind prog w) l)(k:Int):(∃e∈l,(intKind prog w).is k e.2=true)↔k∈l.map λe=>numOf e.2:=by
 rw[List.mem_map];constructor;·rintro⟨e,he,b⟩;obtain⟨t,ht⟩:=Value.isInt_shape b;exact⟨e,he,by rw[ht];rfl⟩
 ·rintro⟨e,he,b⟩;obtain⟨⟨f,c,_⟩,_⟩:=d e he;obtain⟨t,ht⟩:=Value.isInt_shape c;refine⟨e,he,?_⟩;rw[ht]at b;have :f=k:=b;subst this;exact c
theorem u5{g:Bool->Sem Unit}(v:∀(b:Bool)(s₁:Shared)(m:Unit->Shared->Prop),m () s₁->wpAny (model prog w) A (g b) m E s₁){es:Array (Int×Value)}{ep:Nat}{t:SetTable}(ho:s.heap.get? a=some (sobj es ep t)){c:Array (Int×Value)}{d:SetTable}(p:ElemsOf (intKind prog w) c.toList)(q:(keysOf c).Perm ks)(j:c.size<scanBound)(u:d.fits c.size=true)(r:Tbl (ledW w) d){wd:Bool}{R:Option Bool->Shared->Prop}(h:∀h',Heap.SameBut a s.heap h'->SetI prog w h' a ks->R (some true) {s with heap:=h'}):wpAny (model prog w) A (do storeSet a c d;if(!wd&&d.tooFull)=true then do g (relayAll d c (SetTable.grown c.size)).2.2;storeSet a (relayAll d c (SetTable.grown c.size)).1 (relayAll d c (SetTable.grown c.size)).2.1;pure (some true)else pure (some true)) R E s:=by
 have put:∀{h:Heap}{es:Array (Int×Value)}{ep:Nat}{t:SetTable}(f:Array (Int×Value))(t':SetTable),h.get? a=some (sobj es ep t)->(h.update a (Obj.putSet f t')).get? a=some (sobj f (ep+1) t'):=λ{h es ep t}f t' e=>by have :=pk (Obj.putSet f t') e (by rw[putSet_of f t' rfl];rfl);rw[putSet_of f t' rfl]at this;exact this
 refine zQ00 (wpAny_storeSet_of ho rfl ?_ (fits_of_scanBound j));have q1:=put c d ho;have sb:=Heap.SameBut.update s.heap a (Obj.putSet c d);split
 ·have i:=relayAll_perm d c (SetTable.grown c.size);have k:=relayAll_fits d c (SetTable.grown c.size);have l:=r.UA c (SetTable.grown c.size);generalize relayAll d c (SetTable.grown c.size)=Z at i k l⊢;obtain⟨n,x,y⟩:=Z;dsimp only at i k l⊢;have o:n.size<scanBound:=by rw[<-Array.length_toList,i.length_eq,Array.length_toList];exact j
  refine zQ00 (v _ _ _ (zQ00 (wpAny_storeSet_of q1 rfl (zQ02 ?_) (fits_of_scanBound o))));exact h _ (sb.trans (Heap.SameBut.update _ a _)) ⟨_,_,_,put n x q1,p.perm i,(i.map _).trans q,o,k,l⟩
 ·exact zQ02 (h _ sb ⟨_,_,_,q1,p,q,j,u,r⟩)
theorem Jd{k:Int}{tk:Tok}{Q:Bool->Shared->Prop}(hS:SetI prog w s.heap a ks)(F:ks.length+1<scanBound)(h:∀h' b,Heap.SameBut a s.heap h'->SetI prog w h' a (if k∈ks then ks else k::ks)->Q b {s with heap:=h'}):wpAny (model prog w) A (setAddHashed a (.int k tk) ((intKind prog w).hash k)) Q E s:=by
 obtain⟨es,ep,t,ho,f,l,hb,n,ht⟩:=hS;have x:(intKind prog w).is k (.int k tk)=true:=intKind_is _ _ _ _;have r:(Value.int k tk).scannable=true:=rfl;have hsz:es.size=ks.length:=by rw[<-Lc,l.length_eq]
 have mem:(∃e∈es.toList,(intKind prog w).is k e.2=true)↔k∈ks:=(M8 f k).trans l.mem_iff;unfold setAddHashed setAddHashedIn;refine fW (zQ00 (wpAny_setState_of ho rfl n ?_));dsimp only;rw[byScan_of r hb f];simp only[↓reduceIte];unfold setAddByScan;refine zQ00 (zQ00 (wpAny_rule (zQ00 (wpAny_setScan_of x ho rfl n f ?_))));cases hr:List.findIdx? (λe=>(intKind prog w).is k e.2) es.toList with
  |some j=>obtain⟨hj,C,_⟩:=List.findIdx?_eq_some_iff_getElem.mp hr;have p:k∈ks:=mem.mp ⟨es.toList[j],List.getElem_mem hj,C⟩;rw[if_pos p]at h;exact zQ02 (zQ02 (h s.heap _ (Heap.SameBut.refl a s.heap) ⟨es,ep,t,ho,f,l,hb,n,ht⟩))
  |none=>
   have p:¬k∈ks:=λz=>by obtain⟨e,he,B⟩:=mem.mpr z;have :=List.findIdx?_eq_none_iff.mp hr e he;rw[B]at this;exact Bool.noConfusion this
   rw[if_neg p]at h;have o:∀(b:Bool)(s₁:Shared)(c:Unit->Shared->Prop),c () s₁->wpAny (model prog w) A (match b with|true=>rule "set.scan.the-table-gave-way"|false=>pure ()) c E s₁:=λb s₁ c hq=>by cases b<;>first|exact zQ02 hq|exact wpAny_rule hq
   have d:=layNew_perm t es ((intKind prog w).hash k) (.int k tk);have g:=layNew_fits t es ((intKind prog w).hash k) (.int k tk);have i:=ht.lay es ((intKind prog w).hash k) (.int k tk);dsimp only;generalize layNew t es ((intKind prog w).hash k) (.int k tk)=Z at d g i⊢;obtain⟨m,G,wd,D⟩:=Z;dsimp only at d g i⊢;rw[Array.toList_push]at d;have v:ElemsOf (intKind prog w) m.toList:=(f.push x r).perm d;have y:(keysOf m).Perm (k::ks):=by refine(d.map _).trans ?_;rw[eW];exact List.perm_append_comm.trans (List.Perm.cons _ l)
   have u:m.size<scanBound:=by rw[<-Array.length_toList,d.length_eq,cS,Array.length_toList];simp;omega
   refine zQ00 (o _ _ _ ?_);split
   ·refine zQ00 ?_;rw[hashByValue_scannable 8 r];refine zQ02 (u5 (λb s₁ c hq=>o b s₁ c hq) ho v y u ?_ ?_ λh' q hS'=>zQ02 (h h' _ q hS'))
    ·split;·exact g
     ·exact SetTable.fits_plain_off g
    ·split;·exact i
     ·exact i.plain
   ·refine zQ00 (zQ02 ?_);exact u5 (λb s₁ c hq=>o b s₁ c hq) ho v y u g i λh' q hS'=>zQ02 (h h' _ q hS')
theorem w_updLoop{I:Addr}{fp g:List Addr}{G:Array GenState->Array GenState->Prop}{n:Nat}{P:Nat->Value->Prop}{St:Nat->Shared->Prop}{R:Result->Shared->Prop}(W:WalksS prog w A.in1 I fp g G n P St)(S:Addr)(hSf:S∉fp)(ns:List Int)(T:ns.length=n)(hval:∀i v,P i v->∃k t,ns[i]?=some k/\v= .int k t)(hb:∀ks:List Int,ks.Nodup->(∀z,z∈ks->z∈ns)->ks.length+1<scanBound):∀(k i:Nat)(s:Shared)(ks:List Int),n-i=k->i<=n->St i s->SetI prog w s.heap S ks->ks.Nodup->(∀z,z∈ks↔z∈ns.take i)->ks.length<=i->(∀s' ks',Moved (S::g) G s s'->SetI prog w s'.heap S ks'->ks'.Nodup->(∀z,z∈ks'↔z∈ns)->R (.ok (.ret .none)) s')->codeAny (model prog w) A (.builtin "set.update.loop" ⟨[.ref S, .ref I],[]⟩) R s:=by
 have p:S∉g:=λh=>hSf (W.sub _ h);have hsub:∀b∈g,b∈S::g:=λb hb=>ck _ hb;intro k;induction k with
  |zero=>
   intro i s ks J hi l hS d hm K j;have H:i=n:=by omega
   subst H;refine codeAny_builtin PyProof.Rows.F.entry_set_update_loop ?_;rw[Around.under_plainId PyProof.Rows.F.plain_set_update_loop _];refine zQ00 (m:=pyNext (.ref I)) (W.done s _ _ l λs' c=>?_);rw[rY (by omega)]at hm;exact zQ02 (j s' ks (c.mono hsub) (hS.keep λo e=>c.heap S o p e) d hm)
  |succ k O=>
   intro i s ks J hi l hS d hm K j;have hlt:i<n:=by omega
   refine codeAny_builtin PyProof.Rows.F.entry_set_update_loop ?_;rw[Around.under_plainId PyProof.Rows.F.plain_set_update_loop _];refine zQ00 (m:=pyNext (.ref I)) (W.item i s _ _ hlt l λv s' B N c=>?_);obtain⟨z,t,x,rfl⟩:=hval i v B;have hS':=hS.keep λo e=>c.heap S o p e;refine zQ00 (m:=holding [Value.int z t] (setAdd S (.int z t))) (fW ?_);unfold setAdd;refine fW (zQ00 ((intKind prog w).pyHash (k:=z) (intKind_is _ _ _ _) ?_));refine Jd (s:={s' with toks:=s'.toks+1}) hS' (hb ks d λz f=>tR ((hm z).mp f)) λh' b r D=>?_;have u:ns.take (i+1)=ns.take i++[z]:=by rw[List.take_succ,x];rfl
   refine zQ02 ⟨plainId_quiet PyProof.Rows.F.plain_set_update_loop _,O (i+1) _ _ (by omega) hlt (W.frame _ s' _ _ N (Nat.le_succ _) λb hb o e=>?_) D ?_ ?_ ?_ λQ ks' L C M F=>?_⟩;·rw[r.2 b (λh:b=S=>hSf (by rw[<-h];exact hb))];exact e
   ·split;·exact d
    ·rename_i f;exact List.nodup_cons.mpr ⟨f,d⟩
   ·intro y;rw[u,List.mem_append,List.mem_singleton,<-hm y];split;·rename_i f;exact⟨.inl,λq=>q.elim id λe=>e▸f⟩
    ·rw[zQ29];exact⟨λq=>q.elim .inr .inl,λq=>q.elim .inr .inl⟩
   ·split;·omega
    ·rw[b_];omega
   ·refine j Q ks' (Moved.trans W.gtrans ((c.mono hsub).then_heap (Nat.le_succ _) λb o hb e=>?_) L) C M F;rw[r.2 b (λh:b=S=>hb (by rw[h];exact bI))];exact e
end
section
variable{prog:Program}{w:World}{A:Around}{E:Value->Shared->Prop}{s:Shared}
theorem c_setNew(a:Value){Q₁:Value->Shared->Prop}(h:Q₁ (.ref s.heap.objs.size) {s with heap:=s.heap.push (sobj #[] 0 (.fresh 0 0 (ledW w)))}):codeAny (model prog w) A (.call (.builtin "set.__new__") ⟨[.type "set",a],[]⟩) (wants Q₁ E) s:=by refine codeAny_of_tree ?_;refine zQ00 (m:=checkBuiltinCall "set.__new__" ⟨[.type "set",a],[]⟩) (wpAny_of_eq (PySem.F.newCall_set_1 a) (zQ02 ⟨plainId_quiet PySem.F.plain_set_new _,codeAny_builtin PySem.F.entry_set_new ?_⟩));rw[Around.under_plainId PySem.F.plain_set_new _];unfold Builtin.«set.__new__» Builtin.Frozenset.newClass;have hsub:=sub_set_self;obtain⟨b,g,d,tk,os⟩:=s;dsimp only;wp_walk;refine wpAny_askSetting (zQ02 ?_);dsimp only;simp only[newObj];exact zQ00 (wpAny_alloc (zQ02 (zQ02 h)))
set_option maxHeartbeats 3200000 in
theorem w_setOf {l : Addr} {items : Array Value} {ns : List Int} {Q : Value → Shared → Prop} (hh : A.handled = none) (hl : s.heap.IsList l items) (hi : IntsAre items.toList ns) (hb : ∀ ks : List Int, ks.Nodup → (∀ z, z ∈ ks → z ∈ ns) → ks.length + 1 < scanBound)
    (h : ∀ (h' : Heap) (tk : Nat) (ks : List Int), SetI prog w h' s.heap.objs.size ks → ks.Nodup → (∀ z, z ∈ ks ↔ z ∈ ns) → (∀ b o, b < s.heap.objs.size → s.heap.get? b = some o → h'.get? b = some o) → Q (.ref s.heap.objs.size) { s with heap := h', toks := tk }) :
    wpAny (model prog w) A (call (.type "set") [.ref l]) Q E s := by
  obtain ⟨c, tl, hmro⟩ := PySem.F.called_set.mro
  have hmade := PySem.F.called_set.made
  have hsub := PySem.F.called_set.sub
  refine wpAny_call (codeAny_of_tree (zQ02 ⟨Code.quiet_builtin _ (by decide +kernel), codeAny_builtin F.entry_type_call ?_⟩))
  rw [Around.under_plain (weight_type_call_type "set" [.ref l] []) rfl]
  have h1 := PySem.F.called_set.notType
  have h2 := PySem.F.called_set.canCreate
  have hct := PySem.F.typeCall_set_1 (.ref l)
  repeat (any_goals (first | assumption | wp_step))
  refine codeAny_mono (c_setNew (.ref l) (E := E) (Q₁ := fun obj s₁ => obj = .ref s.heap.objs.size ∧ s₁ = { s with heap := s.heap.push (sobj #[] 0 (.fresh 0 0 (ledW w))) }) ⟨rfl, rfl⟩) fun r s₁ hr => ?_
  cases r with
  | error e => exact hr
  | ok fl =>
    cases fl with
    | ret obj =>
      obtain ⟨rfl, rfl⟩ := hr
      have hS : (s.heap.push (sobj #[] 0 (.fresh 0 0 (ledW w)))).get? s.heap.objs.size = some (sobj #[] 0 (.fresh 0 0 (ledW w))) := zQ12 _ rfl
      have hT : Shared.TypeIs { s with heap := s.heap.push (sobj #[] 0 (.fresh 0 0 (ledW w))) } (.ref s.heap.objs.size) "set" := ⟨_, hS, rfl⟩
      have hli := PySem.F.called_set.init.lookup
      have hbi := PySem.F.called_set.init.bind (.ref s.heap.objs.size)
      repeat (any_goals (first | assumption | wp_step))
      refine codeAny_mono (codeAny_call_builtin (R := wants (fun r s₂ => r = .none ∧ ∃ h' tk ks, s₂ = { s with heap := h', toks := tk } ∧ SetI prog w h' s.heap.objs.size ks ∧ ks.Nodup ∧ (∀ z, z ∈ ks ↔ z ∈ ns) ∧
          (∀ b o, b < s.heap.objs.size → s.heap.get? b = some o → h'.get? b = some o)) E) PySem.F.called_set.init.plain F.entry_set_init (check_set_init_1 hT ?_)) fun r₂ s₂ hr₂ => ?_
      · obtain ⟨ol, hol, hcl, nl, hdl⟩ := hl
        obtain ⟨ocls, odict, odata, oslots⟩ := ol
        simp only at hcl hdl
        subst hcl; subst hdl
        have hol' : (s.heap.push (sobj #[] 0 (.fresh 0 0 (ledW w)))).get? l = some { cls := .type "list", dict := odict, data := .seq items nl, slots := oslots } := zQ01 _ hol
        have hsls := PySem.F.sub_list_set
        have hslf := PySem.F.sub_list_frozenset
        have hne : (Value.type "list" == Value.type "dict") = false := by decide
        have hl1 : (s.heap.push (sobj #[] 0 (.fresh 0 0 (ledW w)))).IsList l items := ⟨_, hol', rfl, nl, rfl⟩
        unfold Builtin.«set.__init__» noKeywords Builtin.Frozenset.updateFrom
        generalize hPI : pyIter = PI
        wp_walk
        subst hPI
        refine wpAny_pyIter_list hl1 (zQ00 (wpAny_runValue ?_))
        have hlS : l < s.heap.objs.size := zQ09 hol
        have hh3 : A.in1.in1.in1.handled = none := by simp [hh]
        have hneI : l ≠ (s.heap.push (sobj #[] 0 (.fresh 0 0 (ledW w)))).objs.size := by rw [zQ27]; exact zQ18 (Nat.lt_succ_of_lt hlS)
        have hSf : s.heap.objs.size ∉ [(s.heap.push (sobj #[] 0 (.fresh 0 0 (ledW w)))).objs.size, l] := by
          rw [zQ27]; simp only [zQ29, zQ14, or_false, not_or]; exact ⟨zQ18 (Nat.lt_succ_self _), Nat.ne_of_gt hlS⟩
        have hlen : ns.length = items.size := by rw [← IntsAre.length hi, Array.length_toList]
        have hval : ∀ (i : Nat) (v : Value), items[i]? = some v → ∃ k t, ns[i]? = some k ∧ v = .int k t := fun i v hv => by
          obtain ⟨t, e⟩ := IntsAre.int_at hi i v (by rw [Array.getElem?_toList]; exact hv)
          have hlt := (Array.getElem?_eq_some_iff.mp hv).1
          refine ⟨_, t, ?_, e⟩
          rw [List.getD_eq_getElem?_getD, zQ03 (by omega)]; rfl
        refine w_updLoop ((Walks.list hh3 _ l hneI items).toS) s.heap.objs.size hSf ns hlen hval hb (items.size - 0) 0 _ [] (by omega) (zQ25 _)
          ⟨⟨_, zQ12 _ rfl, rfl, rfl⟩, (hl1.push _)⟩ ?_ List.nodup_nil (fun z => by simp) (zQ04 _) ?_
        · refine ⟨#[], 0, _, zQ01 _ hS, fun e he => by simp at he, List.Perm.refl _, by decide, rfl, Tbl.fresh _⟩
        · intro s' ks' hm hS' hn' he'
          obtain ⟨h', g', d', tk', os'⟩ := s'
          have eg : g' = s.gens := hm.gens
          have ed : d' = s.drawn := hm.drawn
          have eo : os' = s.os := hm.os
          subst eg ed eo
          refine zQ02 (zQ02 ⟨rfl, h', tk', ks', rfl, hS', hn', he', fun b o hb e => ?_⟩)
          refine hm.heap b o (fun z => ?_) (zQ01 _ (zQ01 _ e))
          rw [zQ27] at z
          rcases List.mem_cons.mp z with z | z
          · exact zQ18 hb z
          · exact zQ18 (Nat.lt_succ_of_lt hb) (List.mem_singleton.mp z)
      · cases r₂ with
        | error e => exact hr₂
        | ok fl₂ =>
          cases fl₂ with
          | ret r =>
            obtain ⟨rfl, h', tk, ks, rfl, q1, q2, q3, q4⟩ := hr₂
            repeat (any_goals (first | assumption | wp_step))
            exact h _ _ _ q1 q2 q3 q4
          | _ => exact hr₂.elim
    | _ => exact hr.elim
end
theorem O_:Slot "set" "__iter__" "set.__iter__":=PySem.F.slot_set_iter
theorem UI:entryFor table "set.__iter__"=some Builtin.«frozenset.__iter__»:=entryFor_alias (id':="frozenset.__iter__") (by kernel_rfl) (by decide+kernel) (by decide+kernel) (by kernel_rfl)
theorem vi:Slot "set_iterator" "__next__" "set_iterator.__next__":= .of (owner:="set_iterator") (n:="__next__") (by rw[typeLookup_type,builtinLookup_eq_fast];kernel_rfl) (by decide+kernel) (by decide+kernel) (by decide+kernel) (by first|exact .inl (by decide+kernel)|exact .inr (by decide+kernel)) (by rw[isSubtype_type];kernel_rfl)
theorem Oi:entryFor table "set_iterator.__next__"=some Builtin.«set_iterator.__next__»:=entryFor_of_fast (by kernel_rfl)
theorem Qd(a:Value):argsOk "set_iterator.__next__" ⟨[a],[]⟩:=by unfold argsOk;kernel_rfl
theorem O6:Slot "set_iterator" "__iter__" "set_iterator.__iter__":= .of (owner:="set_iterator") (n:="__iter__") (by rw[typeLookup_type,builtinLookup_eq_fast];kernel_rfl) (by decide+kernel) (by decide+kernel) (by decide+kernel) (by first|exact .inl (by decide+kernel)|exact .inr (by decide+kernel)) (by rw[isSubtype_type];kernel_rfl)
theorem UN:entryFor table "set_iterator.__iter__"=some Builtin.«dict_keyiterator.__iter__»:=entryFor_alias (id':="dict_keyiterator.__iter__") (by kernel_rfl) rfl (by decide+kernel) (by kernel_rfl)
theorem X7(a:Value):argsOk "set_iterator.__iter__" ⟨[a],[]⟩:=by unfold argsOk;kernel_rfl
theorem vL{a:Type}:∀{l:List a}{i:Nat}(h:i<l.length),(l[i]::l.eraseIdx i).Perm l|x::l,0,_=>List.Perm.refl _|x::l,i+1,h=>(List.Perm.swap _ _ _).trans (List.Perm.cons _ (vL (Nat.lt_of_succ_lt_succ h)))
theorem F9{a:Type}(next:Nat->Nat):∀(n k:Nat)(left:List a)(out:Array a),left.length=n->(pickOrder.go next n k left out).toList.Perm (out.toList++left)|0,k,left,out,e=>by have :left=[]:=List.length_eq_zero_iff.mp e;subst this;unfold pickOrder.go;simp|n+1,k,left,out,e=>by unfold pickOrder.go;have hl:next k%left.length<left.length:=Nat.mod_lt _ (by omega);rw[zQ03 hl];dsimp only;refine(F9 next n (k+1) _ _ (by rw[List.length_eraseIdx_of_lt hl];omega)).trans ?_;rw[Array.toList_push,List.append_assoc];exact List.Perm.append_left _ (vL hl)
theorem vq{a:Type}(next:Nat->Nat)(xs:Array a):(pickOrder next xs).toList.Perm xs.toList:=by unfold pickOrder;exact(F9 next _ 0 xs.toList #[] (by simp)).trans (by simp)
section
variable{prog:Program}{w:World}{A:Around}{E:Value->Shared->Prop}{s:Shared}
theorem Ig{src:Source}{n:Nat}{Q:Nat->Shared->Prop}(hn:n≠0)(h:∀i d,i<n->Q i {s with drawn:=d}):wpAny (model prog w) A (choose src n) Q E s:=λ_ _ _=>⟨hn,h _ _ (Nat.mod_lt _ (Nat.pos_of_ne_zero hn))⟩
theorem Ic{a:Type}:∀(n:Nat)(xs:List a)(s:Shared)(Q:List a->Shared->Prop),xs.length=n->(∀ys d,ys.Perm xs->Q ys {s with drawn:=d})->wpAny (model prog w) A (drawOrder n xs) Q E s|0,xs,s,Q,e,h=>by have :xs=[]:=List.length_eq_zero_iff.mp e;subst this;unfold drawOrder;exact zQ02 (h [] s.drawn (List.Perm.refl _))|n+1,[],s,Q,e,h=>by simp at e|n+1,x::xs,s,Q,e,h=>by unfold drawOrder;refine zQ00 (Ig (by simp) λi d hi=>?_);rw[zQ03 hi];dsimp only;refine zQ00 (Ic n _ _ _ (by rw[List.length_eraseIdx_of_lt hi];simp at e⊢;omega) λys d' b=>zQ02 (h _ d' ?_));exact(List.Perm.cons _ b).trans (vL hi)
theorem cn{a:Type}{M:Model}{c:Prop}[Decidable c]{m n:Sem a}{Q:a->Shared->Prop}(h1:c->wpAny M A m Q E s)(h2:¬c->wpAny M A n Q E s):wpAny M A (if c then m else n) Q E s:=by
 by_cases hc:c;·rw[if_pos hc];exact h1 hc
 ·rw[if_neg hc];exact h2 hc
noncomputable abbrev o9(first:Value)(i:Nat)(S:Addr)(n ep:Nat):Obj:={cls:= .type "set_iterator",data:= .fields #[first, .int i 0, .ref S, .int n 0, .int ep 0]}
inductive Md(w:World)(es:Array (Int×Value))(ep:Nat)(t:SetTable)(S:Addr)(ord:List Value):Nat->Value->Heap->Prop|txt{i:Nat}{h:Heap}(hb:w.params.followText "set-order"=true)(ho:ord=(pickOrder (w.params.setOrder S ep) es).toList.map (·.2)):Md w es ep t S ord i (.int (0:Nat) 0) h|led{i j:Nat}{h:Heap}(hb:w.params.followText "set-order"=false)(hd:(!t.plain&&decide (es.size>1))=false)(ho:ord=es.toList.map (·.2))(hj:SetTable.below t.place j=i):Md w es ep t S ord i (.int (j:Nat) 0) h|TY{i:Nat}{h:Heap}{T:Addr}{os:List Nat}(ht:h.get? T=some {cls:= .type "tuple",data:= .seq (os.map λ(k:Nat)=>Value.int k 0).toArray})(hl:ord.length=os.length)(ho:∀(i k:Nat),os[i]?=some k->∃e:Int×Value,es[k]?=some e/\ord[i]?=some e.2):Md w es ep t S ord i (.ref T) h
end
section
variable{prog:Program}{w:World}{A:Around}{E:Value->Shared->Prop}{s:Shared}
noncomputable def WSt(w:World)(es:Array (Int×Value))(ep:Nat)(t:SetTable)(S I:Addr)(ord:List Value)(i:Nat)(s:Shared):Prop:=s.heap.get? S=some (sobj es ep t)/\∃first,s.heap.get? I=some (o9 first i S es.size ep)/\Md w es ep t S ord i first s.heap
theorem N0{es:Array (Int×Value)}{ep:Nat}{t:SetTable}{S:Addr}{ord:List Value}{i:Nat}{first:Value}{h h':Heap}{fp:List Addr}(m:Md w es ep t S ord i first h)(hT:∀T,first= .ref T->T∈fp)(k:∀b∈fp,∀o,h.get? b=some o->h'.get? b=some o):Md w es ep t S ord i first h':=by cases m with|txt hb ho=>exact .txt hb ho|led hb hd ho hj=>exact .led hb hd ho hj|TY ht hl ho=>exact .TY (k _ (hT _ rfl) _ ht) hl ho
theorem Ja{d:Type}{f:d->Shared->Prop}{c:Value->Shared->Prop}(hh:A.handled=none)(h:∀h' e o,h'.get? e=some o->o.cls= .type "StopIteration"->(∀b o,s.heap.get? b=some o->h'.get? b=some o)->c (.ref e) {s with heap:=h'}):wpAny (model prog w) A (newExc (.type "StopIteration") []>>=raiseNew:Sem d) f c s:=by refine zQ00 ?_;simp only[newExc,newTuple];refine zQ00 (jV ?_ (by size_fits));refine zQ00 (m:=firstArgMember _ _) (wpAny_of_eq (a:=Value.none) (by first|rfl|(simp only[firstArgMember];rfl)) ?_);refine jV ?_ (by size_fits);simp only[raiseNew];refine zQ00 (wpAny_handled ?_);rw[hh];refine zQ00 (zQ02 (wpAny_throw ?_));exact h _ _ _ (zQ12 _ rfl) rfl λb o e=>zQ01 _ (zQ01 _ e)
theorem DL{xs:Array Nat}(hr:Hu xs){i j:Nat}(e:xs[i]?=some j):SetTable.below xs (j+1)=i+1:=by
 obtain⟨hi,f⟩:=Array.getElem?_eq_some_iff.mp e;obtain⟨c,a,b⟩:=tG hr (j+1);have d:xs.getD i 0=j:=by rw[Array.getD_eq_getD_getElem?,e];rfl
 have h1:i<SetTable.below xs (j+1):=by
  rcases Nat.lt_or_ge i (SetTable.below xs (j+1))with z|z;·exact z
  ·have :=b i z hi;omega
 rcases Nat.lt_or_ge (i+1) (SetTable.below xs (j+1))with z|z;·have q1:=a (i+1) z;have q2:=hr.lt (i:=i) (j:=i+1) (by omega) (by omega);omega
 ·omega
theorem Hj(hh:A.handled=none){es:Array (Int×Value)}{ep:Nat}{t:SetTable}{S I:Addr}{ord:List Value}{C:List Addr}(g:t.fits es.size=true)(ht:Tbl (ledW w) t)(hlen:ord.length=es.size)(hne:S≠I)(W:I∉C):WalksS prog w A I (I::S::C) [I] (λa b=>b=a) es.size (λi v=>ord[i]?=some v) (λi s=>WSt w es ep t S I ord i s/\∀first T,(s.heap.get? I).map (·.data)=some (.fields #[first, .int i 0, .ref S, .int es.size 0, .int ep 0])->first= .ref T->T∈C)where
 sub:=λb hb=>by rw[List.mem_singleton]at hb;subst hb;exact bI
 grefl:=λ_=>rfl;gtrans:=λ_ _ _ h1 h2=>h2.trans h1;frame:=λi s h' tk st _ n=>by obtain⟨⟨hS,first,c,hm⟩,hT⟩:=st;have N:=n I bI _ c;refine⟨⟨n S (by simp) _ hS,first,N,N0 hm (fp:=I::S::C) (λT e=>by simp[hT first T (by rw[c];rfl) e]) n⟩,λf T p F=>?_⟩;rw[N]at p;exact hT f T (by rw[c];exact p) F
 item:=λi s Q E hi st u=>by
  obtain⟨⟨hS,first,c,hm⟩,hT⟩:=st;have l:s.TypeIs (.ref I) "set_iterator":=⟨_,c,rfl⟩;have Y:t.place.size=es.size:=by simp only[SetTable.fits,bF,beq_iff_eq]at g;exact g.1
  unfold pyNext;refine zQ00 (wpAny_attempt (wpAny_callSpecial?_slot (name:=Str.ofString "__next__") l vi (gP vi l Oi ?_ (Qd _))));refine zQ00 (m:=fieldsOf (.ref I)) (wpAny_fieldsOf c rfl ?_);refine zQ00 (wpAny_setEntries_of hS rfl g ?_);refine cn (λz=>absurd z (by simp)) λ_=>?_;have put2:∀(j:Nat)(x:Value)(B:_->Shared->Prop)(M:Value->Shared->Prop),ord[i]?=some x->Md w es ep t S ord (i+1) (.int j 0) s.heap->(∀s',WSt w es ep t S I ord (i+1) s'->(∀first T,(s'.heap.get? I).map (·.data)=some (.fields #[first, .int ((i+1:Nat):Int) 0, .ref S, .int es.size 0, .int ep 0])->first= .ref T->T∈C)->Moved [I] (λa b=>b=a) s s'->B (.done (.ret x)) s')->wpAny (model prog w) A.in1 (do setField (.ref I) 0 (rawInt j);setField (.ref I) 1 (rawInt ((i:Int)+1));ret x) B M s:=by
   intro j x B M hx X k;refine zQ00 (wpAny_setField_rec c (by simp) λh1 G y=>zQ00 (wpAny_setField_rec G (by simp) λh2 V sb2=>zQ02 ?_));have H:h2.get? I=some (o9 (.int j 0) (i+1) S es.size ep):=by rw[V];simp[o9,rawInt]
   have D:∀b o,b≠I->s.heap.get? b=some o->h2.get? b=some o:=λb o hb e=>by rw[sb2.2 b hb,y.2 b hb];exact e
   refine k {s with heap:=h2} ⟨D S _ hne hS,_,H,?_⟩ (λf T p F=>?_) ⟨λb o hb e=>D b o (λz=>hb (by rw[z];exact List.mem_singleton.mpr rfl)) e,rfl,rfl,rfl,zQ04 _⟩;·cases X with|txt hb ho=>exact .txt hb ho|led hb hd ho hj=>exact .led hb hd ho hj
   ·rw[H]at p;have :=congrArg (λd=>match d with|some (Data.fields vs)=>vs[0]?|_=>none) p;simp at this;rw[F]at this;cases this
  obtain⟨v,hv⟩:∃v,ord[i]?=some v:=⟨_,zQ03 (by omega)⟩;cases hm with
   |txt hb ho=>
    refine zQ00 ?_;unfold setNext;refine zQ00 (wpAny_setState_of hS rfl g (zQ00 (zQ00 (wpAny_askSetting (zQ02 ?_)))));refine cn (λ_=>?_) λz=>absurd hb z;refine cn (λz=>absurd z (by simp)) λ_=>?_;refine zQ00 ?_;unfold setWalk;refine zQ00 (wpAny_setState_of hS rfl g (zQ00 (zQ00 (wpAny_askSetting (zQ02 ?_)))));refine cn (λ_=>zQ00 (wpAny_askSetting (zQ02 ?_))) λz=>absurd hb z;have h:((pickOrder (w.params.setOrder S ep) es)[i]?).map (λe=>(e.2,(0:Nat)))=some (v,0):=by rw[ho,gs,Array.getElem?_toList]at hv;cases q:(pickOrder (w.params.setOrder S ep) es)[i]? with|none=>rw[q]at hv;cases hv|some e=>rw[q]at hv;cases hv;rfl
    refine zQ02 ?_;show wpAny (model prog w) A.in1 (match Option.map (λe=>(e.2,(0:Nat))) (pickOrder (w.params.setOrder S ep) es)[i]? with|some (x,next)=>_|none=>_) _ _ s;rw[h];exact put2 0 v _ _ hv (.txt hb ho) λs' mX r L=>⟨v,rfl,zQ02 (u v s' hv ⟨mX,r⟩ L)⟩
   |led hb hd ho hj=>
    rename_i j;refine zQ00 ?_;unfold setNext;refine zQ00 (wpAny_setState_of hS rfl g (zQ00 (zQ00 (wpAny_askSetting (zQ02 ?_)))));refine cn (λz=>absurd (hb.symm.trans z) (by decide)) λ_=>?_;refine cn (λz=>absurd (hd.symm.trans z) (by decide)) λ_=>?_;have K:t.led=true:=by rw[ht.led,ledW,hb];rfl
    refine zQ00 (cn (λz=>absurd z (by rw[K];simp)) λ_=>zQ02 ?_);refine zQ02 ?_;obtain⟨k,n⟩:∃k,t.place[i]?=some k:=⟨_,getElem?_pos _ i (by omega)⟩;have he:∃J,es[i]?=some (J,v):=by rw[ho,gs,Array.getElem?_toList]at hv;cases q:es[i]? with|none=>rw[q]at hv;cases hv|some e=>rw[q]at hv;cases hv;exact⟨e.1,rfl⟩
    obtain⟨J,he⟩:=he;have h:(match es[SetTable.below t.place j]?,t.place[SetTable.below t.place j]? with|some (_,x),some j=>some (x,j+1)|_,_=>none)=some (v,k+1):=by rw[hj,he,n]
    show wpAny (model prog w) A.in1 (match(match es[SetTable.below t.place j]?,t.place[SetTable.below t.place j]? with|some (_,x),some j=>some (x,j+1)|_,_=>none)with|some (x,next)=>_|none=>_) _ _ s;rw[h];exact put2 (k+1) v _ _ hv (.led hb hd ho (DL ht.Zv n)) λs' mX r L=>⟨v,rfl,zQ02 (u v s' hv ⟨mX,r⟩ L)⟩
   |TY r hl ho=>
    rename_i T os;obtain⟨k,n⟩:∃k,os[i]?=some k:=⟨_,zQ03 (by omega)⟩;obtain⟨e,he,R⟩:=ho i k n;rw[R]at hv;refine zQ00 (wpAny_seqItems r rfl ?_);have h:(os.map λ(k:Nat)=>Value.int k 0).toArray[i]?=some (.int k 0):=by rw[List.getElem?_toArray,gs,n];rfl
    show wpAny (model prog w) A.in1 (match(os.map λ(k:Nat)=>Value.int k 0).toArray[i]? with|some (.int place _)=>_|some _=>_|none=>_) _ _ s;rw[h];refine zQ00 ?_;unfold setNextDrawn;refine zQ00 (wpAny_setState_of hS rfl g ?_);refine cn (λz=>absurd z (by simp)) λ_=>?_;show wpAny (model prog w) A.in1 (match es[k]? with|some (_,x)=>_|_=>_) _ _ s;rw[he];refine zQ02 ?_;refine zQ00 (wpAny_setField_rec c (by simp) λh1 G y=>zQ02 ⟨_,rfl,zQ02 ?_⟩);have H:h1.get? I=some (o9 (.ref T) (i+1) S es.size ep):=by rw[G];simp[o9,rawInt]
    have D:∀b o,b≠I->s.heap.get? b=some o->h1.get? b=some o:=λb o hb e=>by rw[y.2 b hb];exact e
    have O:T∈C:=hT _ T (by rw[c];rfl) rfl;refine u _ _ R ⟨⟨D S _ hne hS,_,H, .TY (D T _ (λz=>W (z▸O)) r) hl ho⟩,λf T' p F=>?_⟩ ⟨λb o hb e=>D b o (λz=>hb (by rw[z];exact List.mem_singleton.mpr rfl)) e,rfl,rfl,rfl,zQ04 _⟩;rw[H]at p;have :=congrArg (λd=>match d with|some (Data.fields vs)=>vs[0]?|_=>none) p;simp at this;rw[F]at this;cases this;exact O
 done:=λs Q E st u=>by
  obtain⟨⟨hS,first,c,hm⟩,hT⟩:=st;have l:s.TypeIs (.ref I) "set_iterator":=⟨_,c,rfl⟩;have Y:t.place.size=es.size:=by simp only[SetTable.fits,bF,beq_iff_eq]at g;exact g.1
  unfold pyNext;refine zQ00 (wpAny_attempt (wpAny_callSpecial?_slot (name:=Str.ofString "__next__") l vi (gP vi l Oi ?_ (Qd _))));refine zQ00 (m:=fieldsOf (.ref I)) (wpAny_fieldsOf c rfl ?_);refine zQ00 (wpAny_setEntries_of hS rfl g ?_);refine cn (λz=>absurd z (by simp)) λ_=>?_;have P:A.in1.handled=none:=hh;have stop:∀(h':Heap)(e:Addr)(o:Obj),h'.get? e=some o->o.cls= .type "StopIteration"->(∀b o,b≠I->s.heap.get? b=some o->h'.get? b=some o)->wpAny (model prog w) A (do if<-isInstance (.ref e) (Value.type "StopIteration")then pure none else throw (Value.ref e)) Q E {s with heap:=h'}:=λh' e o he hc k=>zQ00 (wpAny_isInstance (T:="StopIteration") (b:=true) ⟨o,he,hc⟩ isSubtype_stop (zQ02 (u _ ⟨λb o hb e=>k b o (λz=>hb (by rw[z];exact List.mem_singleton.mpr rfl)) e,rfl,rfl,rfl,zQ04 _⟩)));have fin:∀B,wpAny (model prog w) A.in1 (do setField (.ref I) 2 Value.none;raiseNew (<-newExc (.type "StopIteration") []):Sem Fin) B (λe s'=>wpAny (model prog w) A (do if<-isInstance e (Value.type "StopIteration")then pure none else throw e) Q E s') s:=λB=>by refine zQ00 (wpAny_setField_rec c (by simp) λh1 G y=>Ja P λh2 e o he hc k=>?_);exact stop h2 e o he hc λb o hb e=>k b o (by show h1.get? b=some o;rw[y.2 b hb];exact e)
  cases hm with
   |txt hb ho=>
    refine zQ00 ?_;unfold setNext;refine zQ00 (wpAny_setState_of hS rfl g (zQ00 (zQ00 (wpAny_askSetting (zQ02 ?_)))));refine cn (λ_=>?_) λz=>absurd hb z;refine cn (λz=>absurd z (by simp)) λ_=>?_;refine zQ00 ?_;unfold setWalk;refine zQ00 (wpAny_setState_of hS rfl g (zQ00 (zQ00 (wpAny_askSetting (zQ02 ?_)))));refine cn (λ_=>zQ00 (wpAny_askSetting (zQ02 ?_))) λz=>absurd hb z;have h:((pickOrder (w.params.setOrder S ep) es)[es.size]?).map (λe=>(e.2,(0:Nat)))=none:=by rw[Array.getElem?_eq_none (by rw[<-Array.length_toList,(vq _ es).length_eq,Array.length_toList];exact zQ04 _)];rfl
    refine zQ02 ?_;show wpAny (model prog w) A.in1 (match Option.map (λe=>(e.2,(0:Nat))) (pickOrder (w.params.setOrder S ep) es)[es.size]? with|some (x,next)=>_|none=>_) _ _ s;rw[h];exact fin _
   |led hb hd ho hj=>
    rename_i j;refine zQ00 ?_;unfold setNext;refine zQ00 (wpAny_setState_of hS rfl g (zQ00 (zQ00 (wpAny_askSetting (zQ02 ?_)))));refine cn (λz=>absurd (hb.symm.trans z) (by decide)) λ_=>?_;refine cn (λz=>absurd (hd.symm.trans z) (by decide)) λ_=>?_;have K:t.led=true:=by rw[ht.led,ledW,hb];rfl
    refine zQ00 (cn (λz=>absurd z (by rw[K];simp)) λ_=>zQ02 ?_);refine zQ02 ?_;have h:(match es[SetTable.below t.place j]?,t.place[SetTable.below t.place j]? with|some (_,x),some j=>some (x,j+1)|_,_=>none)=none:=by rw[hj,Array.getElem?_eq_none (zQ04 _)]
    show wpAny (model prog w) A.in1 (match(match es[SetTable.below t.place j]?,t.place[SetTable.below t.place j]? with|some (_,x),some j=>some (x,j+1)|_,_=>none)with|some (x,next)=>_|none=>_) _ _ s;rw[h];exact fin _
   |TY r hl ho=>
    rename_i T os;refine zQ00 (wpAny_seqItems r rfl ?_);have h:(os.map λ(k:Nat)=>Value.int k 0).toArray[es.size]?=none:=by rw[List.getElem?_toArray,List.getElem?_eq_none (by rw[bD];omega)]
    show wpAny (model prog w) A.in1 (match(os.map λ(k:Nat)=>Value.int k 0).toArray[es.size]? with|some (.int place _)=>_|some _=>_|none=>_) _ _ s;rw[h];refine zQ00 (wpAny_setField_rec c (by simp) λJ U Z=>zQ00 (wpAny_setField_rec U (by simp) λh1 G y=>Ja P λh2 e o he hc k=>?_));exact stop h2 e o he hc λb o hb e=>k b o (by show h1.get? b=some o;rw[y.2 b hb,Z.2 b hb];exact e)
 self:=λi s Q E st u=>by obtain⟨⟨hS,first,c,hm⟩,hT⟩:=st;have l:s.TypeIs (.ref I) "set_iterator":=⟨_,c,rfl⟩;exact wpAny_pyIter_slot l O6 (gP O6 l UN (zQ02 ⟨_,rfl,"set_iterator",_,l,vi.lookup,u⟩) (X7 _))
end
section
variable{prog:Program}{w:World}{A:Around}{E:Value->Shared->Prop}{s:Shared}
theorem C_{xs:Array Nat}(hr:Hu xs):SetTable.below xs 0=0:=by
 obtain⟨b,a,c⟩:=tG hr 0;rcases Nat.eq_zero_or_pos (SetTable.below xs 0)with z|z;·exact z
 ·have :=a 0 z;omega
theorem GF{S:Addr}{es:Array (Int×Value)}{ep:Nat}{t:SetTable}{Q:Value->Shared->Prop}(hS:s.heap.get? S=some (sobj es ep t))(y:t.fits es.size=true)(ht:Tbl (ledW w) t)(O:es.size<scanBound)(h:∀(h':Heap)(d:Drawn)(I:Addr)(u:List Addr)(ord:List Value),WSt w es ep t S I ord 0 {s with heap:=h',drawn:=d}->(∀first T,(h'.get? I).map (·.data)=some (.fields #[first, .int (0:Nat) 0, .ref S, .int es.size 0, .int ep 0])->first= .ref T->T∈u)->ord.Perm (es.toList.map (·.2))->I∉u->s.heap.objs.size<=I->(∀b,b∈u->s.heap.objs.size<=b)->(∀b,b∈I::S::u->b<h'.objs.size)->(∀b o,s.heap.get? b=some o->h'.get? b=some o)->Q (.ref I) {s with heap:=h',drawn:=d}):wpAny (model prog w) A (pyIter (.ref S)) Q E s:=by
 have F:s.TypeIs (.ref S) "set":=⟨_,hS,rfl⟩;have hlt:S<s.heap.objs.size:=zQ09 hS;refine wpAny_pyIter_slot F O_ (gP O_ F UI ?_ (PySem.F.args_set_iter_1 _));refine zQ00 (m:=Builtin.Frozenset.slot0 "__iter__" ⟨[.ref S],[]⟩) (zQ02 ?_);refine zQ00 (zQ00 (wpAny_setEntries_of hS rfl y (zQ02 ?_)));refine zQ00 ?_;unfold setDrawn;refine zQ00 (wpAny_setState_of hS rfl y (zQ00 (zQ00 (wpAny_askSetting (zQ02 ?_)))));refine zQ02 ?_;have plain:∀(first:Value)(ord:List Value),first= .int (0:Nat) 0->Md w es ep t S ord 0 first s.heap->ord.Perm (es.toList.map (·.2))->∀B,(∀h' d I,Q (.ref I) {s with heap:=h',drawn:=d}->(∃o,h'.get? I=some o/\o.cls= .type "set_iterator")->B (.done (.ret (.ref I))) {s with heap:=h',drawn:=d})->wpAny (model prog w) A.in1 (do ret (<-newFields "set_iterator" [first,rawInt 0, .ref S,rawInt es.size,rawInt (<-setEpoch S)])) B E s:=by
  intro first ord p N j B k;subst p;refine zQ00 (wpAny_setEpoch_of hS rfl y (zQ00 (jV (zQ02 ?_))));have g:(s.heap.push (o9 (.int (0:Nat) 0) 0 S es.size ep)).get? s.heap.objs.size=some (o9 (.int (0:Nat) 0) 0 S es.size ep):=zQ12 _ rfl;refine k (s.heap.push (o9 (.int (0:Nat) 0) 0 S es.size ep)) s.drawn s.heap.objs.size (h _ _ _ [] ord ⟨zQ01 _ hS,_,g,?_⟩ (λf T a n=>?_) j (by simp) (zQ04 _) (λb hb=>by simp at hb) (λb hb=>?_) λb o e=>zQ01 _ e) ⟨_,g,rfl⟩;·cases N with|txt hb ho=>exact .txt hb ho|led hb hd ho hj=>exact .led hb hd ho hj
  ·rw[g]at a;have :=congrArg (λd=>match d with|some (Data.fields vs)=>vs[0]?|_=>none) a;simp at this;rw[n]at this;cases this
  ·rw[zQ27];rcases List.mem_cons.mp hb with z|z;·rw[z];exact Nat.lt_succ_self _
   ·rw[List.mem_singleton.mp z];exact Nat.lt_succ_of_lt hlt
 have fin:∀h' d I,Q (.ref I) {s with heap:=h',drawn:=d}->(∃o,h'.get? I=some o/\o.cls= .type "set_iterator")->∃v,PySem.Fin.done (.ret (.ref I))=PySem.Fin.done (.ret v)/\∃T r,Shared.TypeIs {s with heap:=h',drawn:=d} v T/\typeLookup (.type T) (Str.ofString "__next__")=pure (some r)/\Q v {s with heap:=h',drawn:=d}:=λh' d I q⟨o,a,n⟩=>⟨_,rfl,"set_iterator",_,⟨o,a,n⟩,vi.lookup,q⟩;cases hb:w.params.followText "set-order"with
  |true=>
   refine cn (λz=>?_) λ_=>?_;·exfalso;have :(!w.params.followText "set-order"&&(!t.plain&&decide (es.size>1)))=true:=z;rw[hb]at this;cases this
   ·refine zQ00 (zQ02 ?_);exact plain _ _ rfl (.txt hb rfl) ((vq _ es).map _) _ λh' d I q o=>fin h' d I q o
  |false=>
   refine cn (λz=>?_) λz=>?_
   ·refine zQ00 (Ic es.size (List.range es.size) _ _ (by simp) λos d j=>?_);refine zQ00 (m:=newTuple (os.map λ(i:Nat)=>rawInt i)) ?_;refine jV ?_ (by show(os.map λ(i:Nat)=>rawInt i).toArray.size<=_;rw[cC,bD,j.length_eq,List.length_range];exact fits_of_scanBound O);have D:=zQ01 {cls:= .type "tuple",data:= .seq (os.map λ(i:Nat)=>rawInt i).toArray} hS;refine zQ00 (wpAny_setEpoch_of D rfl y (zQ00 (jV (zQ02 ?_))));have hol:os.length=es.size:=by rw[j.length_eq,List.length_range]
    have H:∀i k,os[i]?=some k->k<es.size:=λi k e=>by obtain⟨l,K⟩:=List.getElem?_eq_some_iff.mp e;have :=j.mem_iff.mp (K▸List.getElem_mem l);exact List.mem_range.mp this
    obtain⟨ord,G⟩:∃ord,ord=os.filterMap (λk=>(es.toList.map (·.2))[k]?):=⟨_,rfl⟩;have p:(es.toList.map (·.2)).length=es.size:=by rw[bD,Array.length_toList]
    have J:ord.Perm (es.toList.map (·.2)):=by rw[G];refine(j.filterMap _).trans (List.Perm.of_eq ?_);rw[<-p];exact List.filterMap_getElem?_range_length _
    have M:∀(l:List Nat),(∀k,k∈l->k<es.size)->∀(i k:Nat),l[i]?=some k->(l.filterMap (λk=>(es.toList.map (·.2))[k]?))[i]?=(es.toList.map (·.2))[k]?:=by intro l;induction l with|nil=>intro _ i k e;simp at e|cons x l P=>intro hl i k e;have R:=hl x bI;rw[mI,zQ03 (l:=es.toList.map (·.2)) (i:=x) (by omega)];cases i with|zero=>simp at e;subst e;rw[zQ03 (l:=es.toList.map (·.2)) (i:=x) (by omega)];rfl|succ i=>exact P (λk c=>hl k (ck _ c)) i k (by simpa using e)
    have C:((s.heap.push {cls:= .type "tuple",data:= .seq (os.map λ(i:Nat)=>rawInt i).toArray}).push (o9 (.ref s.heap.objs.size) 0 S es.size ep)).get? (s.heap.push {cls:= .type "tuple",data:= .seq (os.map λ(i:Nat)=>rawInt i).toArray}).objs.size=some (o9 (.ref s.heap.objs.size) 0 S es.size ep):=zQ12 _ rfl;have L:((s.heap.push {cls:= .type "tuple",data:= .seq (os.map λ(i:Nat)=>rawInt i).toArray}).push (o9 (.ref s.heap.objs.size) 0 S es.size ep)).get? s.heap.objs.size=some {cls:= .type "tuple",data:= .seq (os.map λ(i:Nat)=>rawInt i).toArray}:=zQ01 _ (zQ12 _ rfl);refine fin _ d (s.heap.push {cls:= .type "tuple",data:= .seq (os.map λ(i:Nat)=>rawInt i).toArray}).objs.size (h ((s.heap.push {cls:= .type "tuple",data:= .seq (os.map λ(i:Nat)=>rawInt i).toArray}).push (o9 (.ref s.heap.objs.size) 0 S es.size ep)) d _ [s.heap.objs.size] ord ⟨zQ01 _ D,_,C, .TY L ?_ ?_⟩ (λf T a n=>?_) J ?_ ?_ (λb hb=>by rw[List.mem_singleton.mp hb];exact zQ04 _) (λb hb=>?_) λb o e=>zQ01 _ (zQ01 _ e)) ⟨_,C,rfl⟩;·rw[J.length_eq,p,hol]
    ·intro i k e;have c:=H i k e;refine⟨es[k],getElem?_pos es k c,?_⟩;rw[G,M os (λk c=>by obtain⟨i,hi,e⟩:=List.getElem_of_mem c;exact H i k (by rw[zQ03 hi,e])) i k e,gs,Array.getElem?_toList,getElem?_pos es k c];rfl
    ·rw[C]at a;have :=congrArg (λd=>match d with|some (Data.fields vs)=>vs[0]?|_=>none) a;simp at this;rw[n]at this;cases this;exact List.mem_singleton.mpr rfl
    ·rw[zQ27,List.mem_singleton];exact Nat.ne_of_gt (Nat.lt_succ_self _)
    ·rw[zQ27];exact Nat.le_succ _
    ·rw[zQ27,zQ27];rcases List.mem_cons.mp hb with z|z;·rw[z,zQ27];exact Nat.lt_succ_self _
     ·rcases List.mem_cons.mp z with z|z;·rw[z];exact Nat.lt_succ_of_lt (Nat.lt_succ_of_lt hlt)
      ·rw[List.mem_singleton.mp z];exact Nat.lt_succ_of_lt (Nat.lt_succ_self _)
   ·refine zQ00 (zQ02 ?_);have hd:(!t.plain&&decide (es.size>1))=false:=by have :¬(!w.params.followText "set-order"&&(!t.plain&&decide (es.size>1)))=true:=z;rw[hb]at this;simpa using this
    exact plain _ _ rfl (.led hb hd rfl (C_ ht.Zv)) (List.Perm.refl _) _ λh' d I q o=>fin h' d I q o
end
theorem Ml:typeLookup (.type "set") "__len__"=pure (some (.builtin "set.__len__")):=by rw[typeLookup_type,builtinLookup_eq_fast];kernel_rfl
theorem ND:splitId "set.__len__"=some ("set","__len__"):=by decide+kernel
section
variable{prog:Program}{w:World}{A:Around}{E:Value->Shared->Prop}{s:Shared}
theorem xZ{S:Addr}{ks:List Int}{Q:List Value->Shared->Prop}(hh:A.handled=none)(hS:SetI prog w s.heap S ks)(h:∀h' d tk vs ns,IntsAre vs ns->ns.Perm ks->s.heap.objs.size<=h'.objs.size->(∀b o,s.heap.get? b=some o->h'.get? b=some o)->Q vs {s with heap:=h',drawn:=d,toks:=tk}):wpAny (model prog w) A (collect (.ref S)) Q E s:=by
 obtain⟨es,ep,t,r,R,V,G,y,ht⟩:=hS;have hlt:S<s.heap.objs.size:=zQ09 r;unfold collect;refine zQ00 (wpAny_runValue (codeAny_builtin F.entry_proto_collect ?_));rw[Around.under_plainId F.plain_proto_collect _];refine zQ00 (m:=newList []) (jV ?_);refine zQ02 ⟨plainId_quiet F.plain_list_iadd _,codeAny_builtin F.entry_list_iadd ?_⟩;rw[Around.under_plainId F.plain_list_iadd _];obtain⟨lo,Z⟩:∃lo:Obj,lo={cls:= .type "list",data:= .seq ([]:List Value).toArray}:=⟨_,rfl⟩;show wpAny _ A.in1 (Builtin.List.listExtendWith (.ref s.heap.objs.size) (.ref S) (.ref s.heap.objs.size)) _ _ _;unfold Builtin.List.listExtendWith;have u:(s.heap.push {cls:= .type "list",data:= .seq ([]:List Value).toArray}).get? S=some (sobj es ep t):=zQ01 _ r;refine zQ00 (wpAny_typeOf (T:="set") ⟨_,u,rfl⟩ ?_);have h1:Builtin.List.listSameRef (.ref s.heap.objs.size) (.ref S)=false:=by simp[Builtin.List.listSameRef];exactλz=>Nat.lt_irrefl _ (z▸hlt)
 rw[if_neg (by rw[h1];decide)];refine zQ00 (GF u y ht G λh2 d I M ord D hT g N a B Y C=>?_);have l:h2.get? s.heap.objs.size=some {cls:= .type "list",data:= .seq ([]:List Value).toArray}:=C _ _ (zQ12 _ rfl);have hne:S≠I:=λz=>by rw[zQ27]at a;rw[<-z]at a;exact Nat.lt_irrefl _ (gc hlt (cw (Nat.le_succ _) a))
 have c:Shared.TypeIs {s with heap:=h2,drawn:=d} (.ref S) "set":=⟨_,D.1,rfl⟩;refine zQ00 (fW ?_);unfold Builtin.List.listLengthHint;refine zQ00 (wpAny_specialOf c Ml ?_);(generalize f:("set.__len__":String)=H;(fail_if_success(clear f H));wp_delta;rw[show splitId H=some ("set","__len__")from by subst f;exact ND];subst f);refine zQ00 (wpAny_isInstance (b:=true) c sub_set_self ?_);refine cn (λz=>nomatch z) λ_=>?_;refine cn (λ_=>?_) λz=>absurd (by decide+kernel) z;refine zQ00 (wpAny_typeOf c (zQ02 ?_));refine cn (λ_=>?_) λz=>absurd (by decide+kernel) z;refine zQ00 (wpAny_rule (zQ00 ?_));refine zQ00 (m:=updateSeq s.heap.objs.size (·.push .none)) (wpAny_updateSeq l rfl ?_);have p:=pk (Obj.mapSeq (·.push Value.none)) l rfl;refine wpAny_updateSeq p rfl ?_;have O:=pk (Obj.mapSeq (·.pop)) p rfl;have J:∀b o,b≠s.heap.objs.size->h2.get? b=some o->((h2.update s.heap.objs.size (Obj.mapSeq (·.push Value.none))).update s.heap.objs.size (Obj.mapSeq (·.pop))).get? b=some o:=λb o hb e=>(iW _ _ (Ne.symm hb)).trans ((iW _ _ (Ne.symm hb)).trans e);have hSf:s.heap.objs.size∉I::S::M:=λz=>by
  rw[zQ27]at a B;rcases List.mem_cons.mp z with z|z;·rw[<-z]at a;exact Nat.lt_irrefl _ a
  ·rcases List.mem_cons.mp z with z|z;·rw[<-z]at hlt;exact Nat.lt_irrefl _ hlt
   ·exact Nat.lt_irrefl _ (B _ z)
 have hlen:ord.length=es.size:=by rw[g.length_eq,bD,Array.length_toList]
 have W:=Hj (prog:=prog) (A:=A.in1) hh y ht hlen hne N (ep:=ep);refine zQ02 ⟨plainId_quiet F.plain_extend_loop _,codeAny_extend_loopS W (fits_of_scanBound G) _ hSf _ es.size 0 _ _ _ (by omega) (zQ25 _) (W.frame 0 {s with heap:=h2,drawn:=d} _ s.toks ⟨D,hT⟩ (zQ04 _) λb hb o e=>J b o (λz=>hSf (z▸hb)) e) O (ItemsOf.nil _) λs' i X hm hS' x=>?_⟩;refine zQ00 (m:=load s.heap.objs.size) (wpAny_load hS' (zQ02 ?_));have L:i.toList=ord:=by refine List.ext_getElem? λj=>?_;rw[Array.getElem?_toList];cases q:i[j]? with|some v=>exact(x.2 j v q).symm|none=>have :=Array.getElem?_eq_none_iff.mp q;rw[List.getElem?_eq_none (by rw[hlen,<-x.1];exact this)]
 obtain⟨h',g',d',tk',os'⟩:=s';have eg:g'=s.gens:=hm.gens;have ed:d'=d:=hm.drawn;have eo:os'=s.os:=hm.os;subst eg ed eo;have hints:∀v,v∈ord->∃n t,v= .int n t:=λv hv=>by obtain⟨e,he,rfl⟩:=List.mem_map.mp (g.mem_iff.mp hv);obtain⟨⟨k,U,_⟩,_⟩:=R e he;obtain⟨t,K⟩:=Value.isInt_shape U;exact⟨k,t,K⟩
 rw[L];refine h h' d' tk' ord (ord.map numOf) (intsAre_map ord hints) ?_ (Nat.le_of_lt (zQ09 hS')) λb o e=>?_;·refine(g.map numOf).trans ?_;rw[List.map_map];exact V
 ·have hb:b≠s.heap.objs.size:=zQ18 (zQ09 e);have P:b≠I:=λz=>by rw[zQ27]at a;exact Nat.lt_irrefl _ (gc (zQ09 e) (cw (Nat.le_succ _) (z▸a)))
  exact hm.heap b o (λz=>by
   rcases List.mem_cons.mp z with z|z;·exact hb z
   ·exact P (List.mem_singleton.mp z)) (J b o hb (C b o (zQ01 _ e)))
end
section
variable{prog:Program}{w:World}{A:Around}{E:Value->Shared->Prop}{s:Shared}
end
section
variable{prog:Program}{w:World}{A:Around}{E:Value->Shared->Prop}{s:Shared}
theorem uf{S:Addr}{ks:List Int}{Q:Value->Shared->Prop}(hh:A.handled=none)(hS:SetI prog w s.heap S ks)(n:ks.Nodup)(hl:ks.length<64)(h:∀h' d tk a(vs:List Value)(ns:List Int)(e:Nat),h'.get? a=some (seqObj "list" vs.toArray e)->s.heap.objs.size<=a->IntsAre vs ns->ns.Perm ks->ns.Pairwise (·<=·)->(∀b o,s.heap.get? b=some o->h'.get? b=some o)->Q (.ref a) {s with heap:=h',drawn:=d,toks:=tk}):wpAny (model prog w) A (call (.builtin "sorted") [.ref S]) Q E s:=by
 refine Calls.call_function_entry kind_sorted plain_sorted entry_sorted (args_sorted1 _) ?_;unfold Builtin.«sorted»;refine zQ00 (m:=checkCount "sorted" 1 1 _) (zQ02 ?_);refine zQ00 (xZ (A:=A.in1) hh hS λh' d tk vs ns f g k j=>?_);have p:vs.length=ks.length:=by rw[IntsAre.length f,g.length_eq]
 refine zQ00 (wpAny_newList ?_ (by show vs.length<=_;rw[sizeLine_eq];omega));have c:(h'.push (seqObj "list" vs.toArray 0)).get? h'.objs.size=some (seqObj "list" vs.toArray 0):=zQ12 _ rfl;refine zQ00 (fW (gP slot_list_sort ⟨_,c,rfl⟩ entry_list_sort (list_sort_tree c f (by omega) λout l a1 a2 a3=>⟨_,rfl,?_⟩) (args_list_sort _)));refine zQ02 ⟨_,rfl,?_⟩;obtain⟨e,he⟩:=sortedHeap_at (out:=out) c;refine h _ d tk h'.objs.size out.toList l e (by simpa using he) k a1 (a2.trans g) a3 λb o i=>?_;have hb:=j b o i;rw[sortedHeap_old (zQ18 (zQ09 hb)) (by rw[size_push'];exact Nat.lt_succ_of_lt (zQ09 hb))];exact zQ01 _ hb
end
end SR
end
section
namespace L3
open PySem PySem.Spec PyProof.Rows L2
end L3
end
section
namespace L3
open PySem PySem.Spec PyProof.Rows L2 KM
end L3
end
section
namespace L3
open PySem PySem.Spec PyProof.Rows L2
theorem C6:∀(B:Nat)(l:List Int),l.Nodup->(∀z,z∈l->0<=z/\z<(B:Int))->l.length<=B
 |0,l,_,h=>by cases l with|nil=>simp|cons z l=>have :=h z bI;omega
 |B+1,l,hn,h=>by
  have :=C6 B (l.erase (B:Int)) (hn.erase _) λz a=>by
   have h1:=h z (List.mem_of_mem_erase a);have h2:z≠(B:Int):=λe=>by rw[e]at a;exact(List.Nodup.mem_erase_iff hn).mp a|>.1 rfl
   omega
  rw[List.length_erase]at this;split at this<;>omega
theorem KQ{l:List Int}(h1:l.Pairwise (·<=·))(h2:l.Nodup):l.Pairwise (·<·):=(h1.and h2).imp λ⟨a,b⟩=>by omega
theorem hZ:∀{ns:List Int}{us:List Value},Vals (ns.map V.int) us->IntsAre us ns|[],_, .nil=> .nil|n::ns,_, .cons r t=>by obtain⟨k,rfl⟩:=r;exact .cons n k (hZ t)
theorem uU:∀{ns:List Int}{us:List Value},IntsAre us ns->Vals (ns.map V.int) us|_,_, .nil=> .nil|_,_, .cons n t h=> .cons ⟨t,rfl⟩ (uU h)
theorem Ha{X:Cx}{pins:List (Addr×Obj)}{s:Shared}{σ:L2.St}{H:Hp}(I:Inv X pins σ H s)(d:Drawn):Inv X pins σ H {s with drawn:=d}:=⟨I.ok,I.os,I.bare,I.base,I.loc,I.cell,I.free,I.g9,I.pin,I.bT,I.len⟩
noncomputable def VM(K:PySem.W.Frag)(t:TA):TE:=λσ H Q=>t σ H λvs a=>∃(p:Addr)(ns:List Int),vs=[.ref p]/\aZ K a p (ns.map V.int)/\(∀z,z∈ns->0<=z/\z<63)/\∀l(b:List Int),a l=none->b.Pairwise (·<·)->(∀z,z∈b↔z∈ns)->Q (.ref l) (upd a l (.lst (b.map V.int)))
theorem za{X:Cx}{e:Expr}{t:TA}{N r q1 q2:Pos}(hh:X.A.handled=none)(E:Gl X "sorted")(L:X.mg "sorted"=none)(F:Gl X "set")(M:X.mg "set"=none)(A:bootBuiltins "sorted"=some (.builtin "sorted"))(B:bootBuiltins "set"=some (.type "set"))(ha:PA X [e] t)(he:starEach [e] X.env=(false,eval e X.env)::starEach [] X.env:=by rfl):PE X (.Call (.Name "sorted" N) [.Call (.Name "set" r) [e] [] q2] [] q1) (VM X.K t):=by
 intro pins s σ H Q I h;refine wpAny_Call_Name_kw (gS I E L A ?_ (by decide) (by decide));refine PyProof.Rows.callWith_builtin1 ?_;show wpAny _ _ (spliced ((false,eval (.Call (.Name "set" r) [e] [] q2) X.env)::backTo q1 (starEach [] X.env))) _ _ s;refine Calls.spliced_cons (wpAny_Call_Name_kw (gS I F M B ?_ (by decide) (by decide)));refine PyProof.Rows.callWith_type1 (bE (ha q2 pins s σ H _ I h) λus s1 T=>?_) he rfl;obtain⟨vs,x,j,O,p,ns,D,hq,hr,q⟩:=T;subst D;obtain⟨u,rfl,P⟩:=vals1 O;cases P;obtain⟨its,R,pl,f⟩:=j.list hq;refine SR.w_setOf hh pl.isList (ns:=ns) (by simpa using hZ R) (λks hn i=>by have :=C6 63 ks hn λz f=>hr z (i z f);unfold scanBound;omega) λh2 v ks hS g hm G=>?_;refine Calls.spliced_nil ?_;have K:ks.length<64:=by have :=C6 63 ks g λz f=>hr z ((hm z).mp f);omega
 refine SR.uf hh hS g K λh3 d S a vs w C ho n m c i J=>?_;have y:Inv X pins σ x {s1 with heap:=h2,toks:=v}:=j.kept (h':=h2) (t':=v) λb o l=>G b o (zQ09 l) l;have k:=Ha y d;have U:vs.length=ks.length:=by rw[IntsAre.length m,c.length_eq]
 refine⟨.ref a,_,k.laid (t':=S) (h':=h3) J n (show bV X.prog X.w _ h3 a (.lst (w.map V.int))from⟨?_,vs,C,uU m,ho⟩),rfl,q a w (k.bT.fresh n) (KQ i (c.nodup_iff.mpr g)) λz=>c.mem_iff.trans (hm z)⟩;rw[bD,c.length_eq,sizeLine_eq];omega
end L3
end
section
namespace L3
open PySem PySem.Spec PyProof.Rows L2 KM
structure Yr(ps cs:List Str)(scope:Scope):Prop where
 kind:scope.kind= .function
 co:scope.isCoroutine=false
 gen:scope.isGenerator=false
 wj:∀x∈scope.names,x.2≠ .cell
 par:∀x∈ps,scope.names.lookup x=some .local
 nd:(ps++cs).Nodup
 free:∀x∈cs,scope.names.lookup x=some .free
 all:∀x,scope.names.lookup x=some .free->x∈cs
structure abg(h:Heap)(f c:Addr)(name qual:Str)(params:Arguments)(body:List Stmt)(scope:Scope)(cs:List Str)(ws:List V)(cl:List (Str×Addr))(doc pm ct:Value):Prop where
 fo:h.get? f=some {cls:= .type "function",data:= .func (PySem.W.fnX name qual params body scope cl .none .none doc pm none (.ref c) ct)}
 inj:∀x y a,cl.lookup x=some a->cl.lookup y=some a->x=y
 own:∀x a,cl.lookup x=some a->x∈cs
 cell:∀(i:Nat)(x:Str),cs[i]?=some x->∃(v:V)(a:Addr)(u:Value),ws[i]?=some v/\cl.lookup x=some a/\RelV v u/\h.IsCell a (some u)
 len:ws.length=cs.length
section
variable{h h':Heap}{f c:Addr}{name qual:Str}{params:Arguments}{body:List Stmt}{scope:Scope}{cs:List Str}{ws:List V}{cl:List (Str×Addr)}{doc pm ct:Value}
end
section
variable{X:Cx}{pins:List (Addr×Obj)}{σ:L2.St}{H:Hp}{s:Shared}{f:Addr}{fo:Obj}
end
section
variable{X:Cx}{pins KA:List (Addr×Obj)}{g:Addr->Hp->Prop}{σ:L2.St}{H:Hp}{s:Shared}
end
section
variable{X:Cx}
noncomputable def NZ:V->List V->Hp->VK->Prop:=λx vs H Q=>∃(z y:Str),x= .str z/\vs=[.str y]/\z.length<=sizeLine/\Q (.str (Txt.rstripChars z y)) H
theorem G5:Tv X "str.rstrip" NZ:=by intro pins s σ H x vs v us Q I d c h;obtain⟨z,y,rfl,rfl,a,q⟩:=h;obtain⟨u,rfl,b⟩:=c.one;obtain⟨t,rfl⟩:=(show∃t,v=Value.str z t from d);obtain⟨e,rfl⟩:=(show∃t,u=Value.str y t from b);exact call_gives F.slot_str_rstrip (typeIs_str _ _ _) F.entry_str_rstrip (F.args_str_rstrip_2 _ _) (gives_str_rstrip_chars z y t e) (post_val_or_made (λ_=>fits_stripped _ _ _ a) λt' k=>⟨.str _,H,I.tok _,⟨_,rfl⟩,q⟩)
noncomputable def aaI(b:TE):TE:=λσ H Q=>b σ H λx a=>∃z,x= .str z/\z.length+2<=sizeLine/\Q (.str ("("++z++")")) a
theorem Ru{e:Expr}{m:TE}{p j:Nat}{r u l w:Pos}(he:PE X e m):PE X (.JoinedStr [.Constant (.str "(") p r, .FormattedValue e (-1) none u, .Constant (.str ")") j l] w) (aaI m):=by
 intro pins s σ H Q I h;refine wpAny_JoinedStr ?_;refine wpAny_Constant_str ⟨_,_,rfl,by decide,?_⟩;refine wpAny_FormattedValue_plain (bE (he pins _ σ H _ (I.tok _) h) λv s1 B=>?_);obtain⟨x,g,i,A,z,o,C,q⟩:=B;subst o;obtain⟨t,rfl⟩:=(show∃t,v=Value.str z t from A);have c:∀a b:Str,(a++b).length=a.length+b.length:=λa b=>Array.size_append;have f:("(":Str).length=1:=by decide
 have k:(")":Str).length=1:=by decide
 have d:Str.empty++("(":Str)="(":=by decide
 have fin:∀(s2:Shared)(t:Tok),Inv X pins σ g s2->∃y t',Value.str z t= .str y t'/\(Str.empty++"("++y).length<=sizeLine/\Joins (model X.prog X.w) X.A X.xe (evalEach [.Constant (.str ")") j l] X.env) (Str.empty++"("++y) (λout s₁=>out.length<=sizeLine/\EP X pins σ Q (.str out s₁.toks) {s₁ with toks:=s₁.toks+1}) s2:=by intro s2 t n;refine⟨z,t,rfl,by rw[d,c,f];omega,?_⟩;refine wpAny_Constant_str ⟨_,_,rfl,by rw[d,c,c,f,k];omega,?_⟩;rw[d];exact⟨by rw[c,c,f,k];omega, .str _,g,(n.tok _).tok _,⟨_,rfl⟩,q⟩
 exact wpAny_formatField_str (fin _ _ i) (fin _ _ (i.tok _)) (by omega)
end
end L3
end
section
namespace K57
open PySem L2 L3 KM PyProof.Rows
seal L2.PE L2.PS L2.kM L2.PT L2.PW L2.PA L2.PG L2.BA L2.PI L2.PC L2.PO L2.G0 L2.PK L3.Bc L3.PH L3.PB
variable{P:Program}{w:World}{K:PySem.W.Frag}{mg:Str->Option Value}{base:Heap}{t:Aq}
theorem OL{a:Type}(f:Nat->List a):∀(m j:Nat),j<=m->(((List.range j).map f).flatten).length<=(((List.range m).map f).flatten).length
 |0,j,h=>by rw[show j=0 by omega];exact zQ04 _
 |m+1,j,h=>by
  by_cases e:j=m+1;·rw[e];exact zQ04 _
  ·have :=OL f m j (by omega);rw[List.range_succ,eW,List.flatten_append,cS];omega
theorem qE{a:Type}(f:Nat->List a)(j:Nat):((List.range (j+1)).map f).flatten=((List.range j).map f).flatten++f j:=by rw[List.range_succ,eW,List.flatten_append];simp
noncomputable def bz:Nat->D->List Str|n+1, .tup (.str x::ps)=>if x="name"then(match ps with|[.str z]=>[z]|_=>[])else((List.range (av x ps).length).map λi=>bz n (((av x ps)[i]?).getD .bA)).flatten|_,_=>[]
def Mf(n:Nat):Sp:=λvs H Q _=>∃(d:D)(v:V),vs=[v]/\Rep H d v/\Wf d/\depth d<n/\(bz n d).length<=16000000/\∀(a:Addr)(H':Hp),H a=none->aE H H'->H' a=some (.lst ((bz n d).map V.str))->Q (.ref a) H'
theorem g8{k:Bool}{ps:List D}(wf:dC aS k (.tup (.str "name"::ps))=true):∃z:Str,ps=[.str z]:=by
 obtain⟨sh,d,_,b,_,c,_⟩:=bw wf;rw[ku]at d;cases d;rw[PY]at b c;obtain⟨a,rfl⟩:∃a,ps=[a]:=by cases ps with|nil=>simp at c|cons a rest=>cases rest with|nil=>exact⟨a,rfl⟩|cons _ _=>simp at c
 rw[bM,bF]at b;have hn:aS a=true:=by simpa[iX]using b.1
 cases a<;>first|exact⟨_,rfl⟩|simp[aS]at hn
theorem jr:aG ["thing","found","kid"] ["thing"] (ak fV):=⟨rfl,rfl,rfl,by decide+kernel,rfl,by decide+kernel,by decide+kernel⟩
theorem Cg{n:Nat}(D:Df K mg "names_in" fV ["thing"])(M:Mg mg t)(aV:bu P w K mg bx "kids_of" (1) ["thing"] fR)(kc:bu P w K mg bx "names_in" (n+3) ["thing"] (Mf n)):bu P w K mg bx "names_in" (n+4) ["thing"] (Mf (n+1)):=by
 refine D.ok jr (λvs H Q E h=>?_) (λbase f bS A outer s H vs Q E hr h=>?_);·obtain⟨d,v,rfl,_⟩:=h;rfl
 obtain⟨d,v,rfl,r,mY,hd,hl,q⟩:=h;refine⟨_,(ag (aT (aw aY (aX bB (pv 0) aj (λ_ _=>rfl)) aq (az _)) (ai (aA (bX (aa (aX bB (pv 0) aj (λ_ _=>rfl)) af)))) aC) (ag (aI (i:=1) jr.nd rfl (cj rfl) (bX af)) (ag (dz PassesOwn.never rfl (iC (aO aV hr.m rfl aQ (aa (pv 0) af))) (bb (i:=2) jr.nd rfl (cj rfl)) (ai (dq (gg PySem.F.plainAttrs_list PySem.F.slot_list_extend PySem.F.type_list_extend nL (pv 1) (aa (aO kc hr.m rfl aQ (aa (pv 2) af)) af))))) (ai (aA (pv 1)))))),?_⟩;try dsimp only[iF,cJ]
 refine pq ?_;intro _ _ _ _;obtain⟨x,ps,k,rfl,wf,vf⟩:=jy mY;have Rv:=uT wf;obtain⟨a,Y,rfl,ha,v0,Y,rfl,⟨rfl,hx⟩,rp⟩:=id r;have ea:lJ (V.str x::Y) 0=some (.str x):=aR (j:=0) rfl;refine⟨_,rfl,a,_,_,_,rfl,rfl,cu.of ha,ea,rfl,_,rfl,?_⟩;refine bL (λc=>?_) (λc=>?_)
 ·have c:V.str x=V.str "name":=of_decide_eq_true c;cases c;obtain⟨z,rfl⟩:=g8 wf;obtain⟨u1,RD,rfl,⟨C,_⟩,_⟩:=rp;subst C;have e:bz (n+1) (.tup [.str "name", .str z])=[z]:=by rw[bz,if_pos rfl]
  rw[e]at q;exact⟨_,rfl,a,_,_, .str z,rfl,rfl,cu.of ha,aR (j:=1) rfl,(gu rfl),λp b=>q p _ b (ao b _) ah⟩
 have hv:x≠"name":=λz=>c (by rw[z];exact decide_eq_true rfl);have e:bz (n+1) (.tup (.str x::ps))=((List.range (av x ps).length).map λi=>bz n (((av x ps)[i]?).getD .bA)).flatten:=by
  conv=>lhs;unfold bz
  exact if_neg hv
 rw[e]at q hl;refine⟨(gu rfl),λg B=>?_⟩;refine⟨_,rfl,x,ps,_,rfl,r.mono (ao B _),vf,λW us I O s1 h1 C=>?_⟩;have sA:=(ao B (.lst [])).trans s1;have N:I g=some (.lst []):=s1 _ _ ah;have l1:=C.length;have U:W≠g:=λz=>by rw[z,ah]at O;cases O
 refine⟨W,rfl,⟨us,aZ.of h1⟩,?_⟩;refine eA us.length (λj G H'=>∃kv,G=[some (.ref a),some (.ref g),kv]/\H' g=some (.lst ((((List.range j).map λi=>bz n (((av x ps)[i]?).getD .bA)).flatten).map V.str))/\bg g I H') ⟨none,rfl,N,λ_ _ _ h=>h⟩ ?_ ?_
 ·rintro i G J hi⟨kv,rfl,b,l⟩;have S:i<(av x ps).length:=by omega
  obtain⟨m,u⟩:∃m,(av x ps)[i]?=some m:=⟨_,zQ03 S⟩;obtain⟨F,T,Mo⟩:=C.get u;have L:=l _ _ U h1;refine⟨⟨us,F,aZ.of L,T⟩,?_⟩;rintro y H4⟨rfl,hy⟩;have Z:=hy us (aZ.of L);rw[T]at Z;cases Z;obtain⟨w1,w2⟩:=dy wf u;have R:=OL (λi=>bz n (((av x ps)[i]?).getD .bA)) (av x ps).length (i+1) S;rw[qE,cS,u]at R;simp only[Option.getD_some]at R;have K9:Rep H4 m F:=Rep.d9 l (λvs=>by rw[N];exactλz=>nomatch z) Mo;refine⟨_,rfl, .inl ⟨rfl,_,aZ.of b⟩,_,rfl,m,F,rfl,K9,w1,by omega,by omega,λp5 H5 hn5 X h5=>?_⟩;refine⟨g,p5,_,_,rfl,rfl,X _ _ b,h5,?_,_,rfl,?_,?_⟩;·rw[bD,bD,show sizeLine=16777216 by decide];omega
  ·rw[qE,eW,u];exact ah
  ·exactλc o hc h=>by rw[aP hc];exact X _ _ (l c o hc h)
 ·rintro G J⟨kv,rfl,b,l⟩;rw[l1]at b;exact⟨⟨us,aZ.of (l _ _ U h1),by omega⟩,_,rfl,q g J B (λc o h=>l c o (ay h B) (sA c o h)) b⟩
theorem rP(D:Df K mg "names_in" fV ["thing"])(M:Mg mg t)(a:bu P w K mg bx "kids_of" (1) ["thing"] fR):∀n:Nat,bu P w K mg bx "names_in" (n+3) ["thing"] (Mf n)|0=>bu.never D λvs H Q E⟨d,v,_,_,_,h,_⟩=>absurd h (Nat.not_lt_zero _)|n+1=>Cg D M a (rP D M a n)
noncomputable def kO:Nat->D->Option Nat|n+1, .tup (.str x::ps)=>if x="next"then(match ps with|[p]=>(kO n p).map (·+1)|_=>none)else if x="zero"then some 0 else none|_,_=>none
def Ti(n:Nat):Sp:=λvs H Q _=>∃(d:D)(v:V),vs=[v]/\Rep H d v/\Wf d/\depth d<n/\Q (match kO n d with|some m=> .int (m:Nat)|none=> .bA) H
theorem sN{k:Bool}{ps:List D}(wf:dC aS k (.tup (.str "next"::ps))=true):∃p:D,ps=[p]:=by
 obtain⟨sh,b,_,d,_,a,_⟩:=bw wf;have :cO "next"= .str "t":=by decide+kernel
 rw[this]at b;cases b;have :(Str.ofString "t").cps.toList.length=1:=by decide+kernel
 rw[this]at a;cases ps with|nil=>simp at a|cons c rest=>cases rest with|nil=>exact⟨c,rfl⟩|cons _ _=>simp at a
theorem da:aG ["thing","count","here"] ["thing"] (ak eQ):=⟨rfl,rfl,rfl,by decide+kernel,rfl,by decide+kernel,by decide+kernel⟩
theorem ug{n:Nat}(D:Df K mg "number_told" eQ ["thing"])(M:Mg mg t):bu P w K mg bx "number_told" (1) ["thing"] (Ti n):=by
 refine D.ok da (λvs H Q E h=>?_) (λbase f bS A outer s H vs Q E hr h=>?_);·obtain⟨d,v,rfl,_⟩:=h;rfl
 obtain⟨d,v,rfl,r,U,hd,q⟩:=h;refine⟨_,(ag (aI (i:=1) da.nd rfl (cj rfl) aj) (ag (aI (i:=2) da.nd rfl (cj rfl) (pv 0)) (ag (tW PassesOwn.never (aw aY (aX bB (pv 2) aj (λ_ _=>rfl)) aq (az _)) (ag (sY (i:=1) da.nd rfl (cj rfl) aj rZ) (ai (aI (i:=2) da.nd rfl (cj rfl) (aX bB (pv 2) aj (λ_ _=>rfl)))))) (ai (aA (jC (aw aY (aX bB (pv 2) aj (λ_ _=>rfl)) aq (az _)) (pv 1) ni)))))),?_⟩;try dsimp only[iF,W]
 refine pq ?_;intro _ _ _ _;refine⟨_,rfl,?_⟩;refine⟨λm G H'=>H'=H/\∃(d':KM.D)(u:V)(c l:Nat),G=[some v,some (.int (c:Nat)),some u]/\Rep H d' u/\Wf d'/\depth d'=m/\depth d'<l/\kO n d=(kO l d').map (·+c),⟨depth d,rfl,d,v,0,n,rfl,r,U,rfl,hd,by cases kO n d<;>rfl⟩,?_⟩;rintro m G H'⟨rfl,d',u,c,l,rfl,N,T,em,X,en⟩;obtain⟨x,ps,k,rfl,wf,Y⟩:=jy T;obtain⟨a,F,rfl,ha,v0,F,rfl,⟨rfl,Z⟩,R⟩:=id N;have B:lJ (V.str x::F) 0=some (.str x):=aR (j:=0) rfl;obtain⟨b,rfl⟩:∃b,l=b+1:=⟨l-1,by omega⟩;refine⟨_,rfl,a,_,_,_,rfl,rfl,cu.of ha,B,rfl,_,rfl,?_⟩;refine bL (λe=>?_) (λe=>?_)
 ·have e:V.str x=V.str "next":=of_decide_eq_true e;cases e;obtain⟨p,rfl⟩:=sN wf;obtain⟨o,RD,rfl,O,_⟩:=R;have J:av "next" [p]=[p]:=by unfold av;rw[if_neg (by decide+kernel)]
  obtain⟨S,w2⟩:=dy wf (i:=0) (p:=p) (by rw[J];rfl);have g:kO (b+1) (.tup [.str "next",p])=(kO b p).map (·+1):=by rw[kO,if_pos rfl]
  refine⟨λI y=>y=H'/\I=[some v,some (.int ((c+1:Nat):Int)),some o],?_,?_⟩;·rintro I y⟨rfl,rfl⟩;refine⟨depth p,by omega,rfl,p,o,c+1,b,rfl,O,S,rfl,by omega,?_⟩;rw[en,g,Option.map_map];congr 1;funext z;show z+1+c=z+(c+1);omega
  ·refine⟨_,rfl,_,_,rfl,rfl,?_⟩;refine⟨_,rfl,a,_,_,_,rfl,rfl,cu.of ha,aR (j:=1) rfl,rfl,?_⟩;show[some v,some (.int ((c:Int)+1)),some o]=_;rw[show(c:Int)+1=((c+1:Nat):Int)by omega]
 have C:x≠"next":=λz=>e (by rw[z];exact decide_eq_true rfl);rw[en]at q;refine⟨_,rfl,a,_,_,_,rfl,rfl,cu.of ha,B,rfl,_,rfl,?_⟩;refine bL (λe=>?_) (λe=>?_)
 ·have e:V.str x=V.str "zero":=of_decide_eq_true e;cases e;have g:kO (b+1) (.tup (.str "zero"::ps))=some 0:=by
   conv=>lhs;unfold kO
   rw[if_neg C,if_pos rfl]
  rw[g]at q;refine⟨_,rfl,?_⟩;simp only[Option.map_some,Nat.zero_add]at q;exact q
 ·have L:x≠"zero":=λz=>e (by rw[z];exact decide_eq_true rfl);have g:kO (b+1) (.tup (.str x::ps))=none:=by
   conv=>lhs;unfold kO
   rw[if_neg C,if_neg L]
  rw[g]at q;exact q
noncomputable def LS(i:Nat):List Nat:=if i<26 then[97+i]else[97+(i-26)/26,97+(i-26)%26]
noncomputable def jf(i:Nat):Str:=⟨(LS i).toArray⟩
noncomputable def Cc:Str:="abcdefghijklmnopqrstuvwxyz"
noncomputable def UO(i:Nat):Bool:=let st:=Txt.rstripChars (jf i) "z";let a:=Txt.mul "a" (((jf i).length:Int)-(st.length:Int));decide (st.length<=2)&&(decide (0<=((jf i).length:Int)-(st.length:Int))&&(decide (a.length<=2)&&(if st=""then decide ("a"++a=jf (i+1))else match lJ st.cps.toList (-1)with|none=>false|some c=>match Builtin.Str.occurrences Cc ⟨#[c]⟩ 0 Cc.length 1 with|[]=>false|j::_=>match lJ Cc.cps.toList ((j:Int)+1)with|none=>false|some b=>decide ((CG st none (some (-1))).length<=2)&&decide ((⟨(CG st none (some (-1))).toArray⟩:Str)++⟨#[b]⟩++a=jf (i+1)))))
theorem RV:((List.range 701).all UO)=true:=by decide+kernel
def UG:Sp:=λvs H Q _=>∃i:Nat,vs=[.str (jf i)]/\i<701/\Q (.str (jf (i+1))) H
theorem p_(i:Nat):(jf i).length<=2:=by show(LS i).toArray.size<=2;rw[cC];unfold LS;split<;>simp
theorem Q5{n:Int}(a:0<=n)(h1:n<=2):MulOk "a" n:=by
 rcases(show n=0\/n=1\/n=2 by omega)with rfl|rfl|rfl;·exact⟨by decide,λz=>absurd (by decide) z,λz=>absurd (by decide) z⟩
 ·exact⟨by decide,λ_ z=>absurd z (by decide),λ_ z=>absurd z (by decide)⟩
 ·exact⟨by decide,λ_ _=>by decide,λ_ _=>by decide⟩
theorem gU:aG ["name","stem","rest"] ["name"] (ak fJ):=⟨rfl,rfl,rfl,by decide+kernel,rfl,by decide+kernel,by decide+kernel⟩
theorem wO(D:Df K mg "name_after" fJ ["name"])(M:Mg mg t):bu P w K mg bx "name_after" (1) ["name"] UG:=by
 refine D.ok gU (λvs H Q E h=>?_) (λbase f bS A outer s H vs Q E hr h=>?_);·obtain⟨i,rfl,_⟩:=h;rfl
 obtain⟨i,rfl,hi,q⟩:=h;have hc:=List.all_eq_true.mp RV i (List.mem_range.mpr hi);unfold UO at hc;refine⟨_,(ag (aI (i:=1) gU.nd rfl (cj rfl) (gg PySem.F.plainAttrs_str PySem.F.slot_str_rstrip PySem.F.type_str_rstrip G5 (pv 0) (aa aq af))) (ag (aI (i:=2) gU.nd rfl (cj rfl) (aN MK aq (aN iP (aJ dZ rfl M.cH bO (aa (pv 0) af)) (aJ dZ rfl M.cH bO (aa (pv 1) af))))) (ag (aT (aw aY (pv 1) aq (az _)) (ai (aA (aN eK aq (pv 2)))) aC) (ai (aA (aN eK (aN eK (Nt (pv 1) fK (eT (rJ kf aj)) fK) (aX sS (qo M.g_LETTERS rfl) (aN dN (gg PySem.F.plainAttrs_str PySem.F.slot_str_index PySem.F.type_str_index JS (qo M.g_LETTERS rfl) (aa (aX sS (pv 1) (rJ kf aj) (λ_ _=>rfl)) af)) aj) (λ_ _=>rfl))) (pv 2))))))),?_⟩;try dsimp only[iF,v]
 refine pq ?_;intro _ _ _ _;have hl:=p_ i;refine⟨_,rfl,rfl,_,_,rfl,rfl,big (by omega),?_⟩;generalize Txt.rstripChars (jf i) "z"=st at hc⊢;dsimp only at hc;simp only[bF,decide_eq_true_eq]at hc;obtain⟨x,o,p,hc⟩:=hc;refine⟨_,rfl,_,rfl,big (by omega),_,rfl,_,rfl,big (by omega),_,_,rfl,rfl,?_⟩;refine⟨_,_,rfl,rfl,Q5 o (by show((jf i).length:Int)-(st.length:Int)<=2;omega),?_⟩;show sj 2 (V.str (Txt.mul "a" (((jf i).length:Int)-(st.length:Int)))) _ _ _;generalize Txt.mul "a" (((jf i).length:Int)-(st.length:Int))=F at hc p⊢;refine⟨_,rfl,rfl,_,rfl,bL (λc=>?_) (λc=>?_)⟩
 ·have c:V.str st=V.str "":=of_decide_eq_true c;cases c;rw[if_pos rfl]at hc;have hc:=of_decide_eq_true hc;refine⟨_,rfl,_,_,rfl,rfl,?_,?_⟩
  ·exact big (by
    have :(Str.ofString "a").length=1:=by decide
    omega)
  ·have q:=q;rw[<-hc]at q;exact q
 have hne:st≠"":=λz=>c (by rw[z];exact decide_eq_true rfl);rw[if_neg hne]at hc;cases d:lJ st.cps.toList (-1)with
  |none=>rw[d]at hc;cases hc
  |some ch=>
   rw[d]at hc;dsimp only at hc;cases e:Builtin.Str.occurrences Cc ⟨#[ch]⟩ 0 Cc.length 1 with
    |nil=>rw[e]at hc;cases hc
    |cons j u=>
     rw[e]at hc;dsimp only at hc;cases g:lJ Cc.cps.toList ((j:Int)+1)with
      |none=>rw[g]at hc;cases hc
      |some k=>
       rw[g]at hc;simp only[bF,decide_eq_true_eq]at hc;obtain⟨hcl,hc⟩:=hc;have C:(Str.ofString "abcdefghijklmnopqrstuvwxyz").length=26:=by decide+kernel
       have n:∀a b:Str,(a++b).length=a.length+b.length:=λa b=>Array.size_append;have m:∀c:Nat,(⟨#[c]⟩:Str).length=1:=λ_=>rfl;refine⟨_,rfl,1,rfl,-1,rfl,st,rfl,big (by omega),rfl,λy r=>?_⟩;have l:y=⟨(CG st none (some (-1))).toArray⟩:=by obtain⟨c⟩:=y;congr 1;exact Array.toList_inj.mp (by rw[List.toList_toArray];exact r)
       have B:y.length<=2:=by rw[l];show(CG st none (some (-1))).toArray.size<=2;rw[cC];exact hcl
       refine⟨rfl,_,rfl,1,rfl,st,-1,ch,rfl,rfl,big (by omega),d,Cc,⟨#[ch]⟩,j,u,rfl,rfl,e,_,_,rfl,rfl,Cc,(j:Int)+1,k,rfl,rfl,big (by show(Str.ofString "abcdefghijklmnopqrstuvwxyz").length<=1000;omega),g,y,⟨#[k]⟩,rfl,rfl,big (by rw[m];omega),_,rfl,_,_,rfl,rfl,big (by rw[n,m];omega),?_⟩;rw[l,hc];exact q
theorem W7:((List.range 26).all λi=>iY (97+i))=true:=by decide+kernel
theorem aay:(YZ.all λz=>decide (3<=z.length))=true:=by decide+kernel
theorem Py{i:Nat}(h:i<702):isNm (jf i)=true:=by
 have b:∀c,c∈(jf i).cps.toList->iY c=true:=by
  intro c hc;have hc:c∈LS i:=by simpa[jf]using hc
  have a:∀j,j<26->iY (97+j)=true:=λj hj=>List.all_eq_true.mp W7 j (List.mem_range.mpr hj);unfold LS at hc;split at hc;·rw[List.mem_singleton]at hc;rw[hc];exact a _ (by omega)
  ·simp only[zQ29,zQ14,or_false]at hc;rcases hc with rfl|rfl;·exact a _ (by omega)
   ·exact a _ (by omega)
 have hl:=p_ i;refine Xj ?_ (by omega) b λd=>?_;·show(LS i).toArray.toList≠[];rw[List.toList_toArray];unfold LS;split<;>simp
 ·have :=of_decide_eq_true (List.all_eq_true.mp aay _ d);omega
theorem QO{i j:Nat}(h:jf i=jf j):i=j:=by
 have :LS i=LS j:=by have :=congrArg (λs:Str=>s.cps.toList) h;simpa[jf]using this
 unfold LS at this;split at this<;>split at this<;>simp at this<;>omega
theorem xJ:∀{l T:List Str},l.Nodup->(∀z,z∈l->z∈T)->l.length<=T.length|[],_,_,_=>zQ25 _|x::l,T,hn,a=>by obtain⟨h1,h2⟩:=List.nodup_cons.mp hn;have b:=a x bI;have :=xJ (l:=l) (T:=T.erase x) h2 λz c=>(List.mem_erase_of_ne (λe=>h1 (by rw[<-e];exact c))).mpr (a z (ck _ c));rw[List.length_erase_of_mem b]at this;have :=List.length_pos_of_mem b;rw[b_];omega
noncomputable def mW(T:List Str)(i:Nat):List Str:=((List.range i).map jf).filter λz=>decide (z∉T)
theorem lA(T:List Str)(i:Nat):mW T (i+1)=mW T i++if jf i∉T then[jf i]else[]:=by unfold mW;rw[List.range_succ,eW,List.filter_append];congr 1;by_cases h:jf i∈T<;>simp[h]
theorem IA(i:Nat):((List.range i).map jf).Nodup:=by refine List.Pairwise.map _ (λa b h=>?_) List.pairwise_lt_range;exactλe=>by have :=QO e;omega
theorem Q0(T:List Str)(i:Nat):(mW T i).Nodup:=(IA i).filter _
theorem vK(T:List Str)(i:Nat):i<=(mW T i).length+T.length:=by
 have h1:(((List.range i).map jf).filter λz=>decide (z∈T)).length<=T.length:=xJ ((IA i).filter _) λz b=>of_decide_eq_true (List.mem_filter.mp b).2;have h2:i=(mW T i).length+(((List.range i).map jf).filter λz=>decide (z∈T)).length:=by
  unfold mW;have :∀l:List Str,l.length=(l.filter λz=>decide (z∉T)).length+(l.filter λz=>decide (z∈T)).length:=λl=>by
   induction l with
    |nil=>rfl
    |cons a l c=>
     rw[List.filter_cons,List.filter_cons,b_];by_cases h:a∈T;·rw[if_neg (by simp[h]),if_pos (by simp[h]),b_];omega
     ·rw[if_pos (by simp[h]),if_neg (by simp[h]),b_];omega
  have :=this ((List.range i).map jf);rwa[bD,List.length_range]at this
 omega
theorem Mu(T:List Str):∀{i j:Nat},i<=j->∃l,mW T j=mW T i++l:=λ{i j}h=>by
 induction j with
  |zero=>exact⟨[],by rw[show i=0 by omega];simp⟩
  |succ j a=>
   by_cases e:i=j+1;·exact⟨[],by rw[e];simp⟩
   ·obtain⟨l,hl⟩:=a (by omega);exact⟨l++(if jf j∉T then[jf j]else[]),by rw[lA,hl,List.append_assoc]⟩
noncomputable def cg(kvs:List (Key×V)):List Str:=kvs.filterMap λp=>match p.1 with| .inr z=>some z| .inl _=>none
theorem Fd(z:Str):∀kvs:List (Key×V),(fC kvs (.inr z)).isSome=decide (z∈cg kvs)
 |[]=>rfl
 |(k,v)::r=>by
  have b:=Fd z r;cases k with
   |inl i=>
    have a:fC ((Sum.inl i,v)::r) (.inr z)=fC r (.inr z):=by simp[fC,List.find?_cons]
    rw[a,b];rfl
   |inr y=>
    have c:cg ((Sum.inr y,v)::r)=y::cg r:=rfl;rw[c];by_cases h:y=z;·subst h;rw[mj rfl];simp
    ·have a:fC ((Sum.inr y,v)::r) (.inr z)=fC r (.inr z):=by simp[fC,List.find?_cons,h]
     rw[a,b];have h':¬z=y:=λe=>h e.symm;simp[h']
def Wj:Sp:=λvs H Q _=>∃(c:Nat)(tk:Addr)(kvs:List (Key×V)),vs=[.int (c:Nat), .ref tk]/\H tk=some (.dK kvs)/\c+kvs.length<=700/\∀(a:Addr)(H':Hp),H a=none->aE H H'->H' a=some (.lst (((mW (cg kvs) 702).take c).map V.str))->Q (.ref a) H'
theorem eR:aG ["count","taken","left","name"] ["count","taken"] (ak fF):=⟨rfl,rfl,rfl,by decide+kernel,rfl,by decide+kernel,by decide+kernel⟩
theorem ze(D:Df K mg "names_left" fF ["count","taken"])(M:Mg mg t)(G:bu P w K mg bx "is_name" (1) ["value"] lC)(I:bu P w K mg bx "name_after" (1) ["name"] UG):bu P w K mg bx "names_left" (2) ["count","taken"] Wj:=by
 refine D.ok eR (λvs H Q E h=>?_) (λbase f bS A outer s H vs Q E hr h=>?_);·obtain⟨c,tk,kvs,rfl,_⟩:=h;rfl
 obtain⟨c,tk,kvs,rfl,x,hb,q⟩:=h;have S:=vy hr;refine⟨_,(ag (aI (i:=2) eR.nd rfl (cj rfl) (bX af)) (ag (aI (i:=3) eR.nd rfl (cj rfl) aq) (ag (tW PassesOwn.never (aw BJ (aJ aM rfl M.cH bO (aa (pv 2) af)) (pv 0) (az _)) (ag (aT (L2.PW.pt (sR (dB (aO G hr.m rfl aQ (aa (pv 3) af))) (kX (RM (GI S (pv 3) (pv 1)))))) (ai (dq (gg PySem.F.plainAttrs_list PySem.F.slot_list_append PySem.F.type_list_append dj (pv 2) (aa (pv 3) af)))) aC) (ai (aI (i:=3) eR.nd rfl (cj rfl) (aO I hr.m rfl aQ (aa (pv 3) af)))))) (ai (aA (pv 2)))))),?_⟩;try dsimp only[iF,U]
 refine pq ?_;intro _ _ _ _;refine⟨(gu rfl),λpl d=>?_⟩;have u:=ao d (.lst []);have hl1:(upd H pl (.lst [])) pl=some (.lst []):=ah;have y:=u _ _ x;have T:tk≠pl:=ay x d;generalize upd H pl (.lst [])=j at u hl1 y⊢;refine⟨λm C H'=>∃i:Nat,m=702-i/\i<=701/\C=[some (.int (c:Nat)),some (.ref tk),some (.ref pl),some (.str (jf i))]/\H' pl=some (.lst ((mW (cg kvs) i).map V.str))/\(mW (cg kvs) i).length<=c/\bg pl j H',⟨702,0,rfl,by omega,rfl,hl1,zQ25 _,λ_ _ _ h=>h⟩,?_⟩;rintro m C H'⟨i,rfl,hi,rfl,n,Z,r⟩;refine⟨_,rfl,pl,_,rfl, .inl (aZ.of n),_,rfl,_,_,rfl,rfl,_,rfl,?_⟩;have O:((mW (cg kvs) i).map V.str).length=(mW (cg kvs) i).length:=bD _;refine bL (λe=>?_) (λe=>?_)
 ·have e:(((mW (cg kvs) i).map V.str).length:Int)<(c:Int):=of_decide_eq_true e;have X:(cg kvs).length<=kvs.length:=List.length_filterMap_le _ _;have Y:=vK (cg kvs) i;have v:i<701:=by omega
  have R:=Py (show i<702 by omega);refine⟨λF g=>F=[some (.int (c:Nat)),some (.ref tk),some (.ref pl),some (.str (jf (i+1)))]/\g pl=some (.lst ((mW (cg kvs) (i+1)).map V.str))/\bg pl j g,?_,?_⟩;·rintro F g⟨rfl,h1,h2⟩;refine⟨702-(i+1),by omega,i+1,rfl,by omega,rfl,h1,?_,h2⟩;rw[lA,cS];split<;>simp<;>omega
  have L:=r _ _ T y;refine⟨_,rfl, .str (jf i),_,rfl,⟨rfl,by have :=p_ i;omega⟩,λJ s2=>?_⟩;refine⟨true,congrArg V.bl R,bj ?_⟩;have N:=s2 _ _ L;have p:=s2 _ _ n;refine⟨_,rfl,_,rfl,tk,_,rfl,JP.k (k:= .inr (jf i)) N,!decide (jf i∈cg kvs),congrArg (λb=>V.bl (!b)) (Fd _ _),?_⟩;have B:bg pl j J:=r.trans s2.x;refine bL (λa=>?_) (λa=>?_)
  ·have a:jf i∉cg kvs:=by simpa using a
   refine⟨_,rfl, .inl ⟨rfl,_,aZ.of p⟩,_,rfl,pl,_,_,rfl,rfl,p,?_,?_⟩;·rw[O,show sizeLine=16777216 by decide];omega
   refine⟨_,rfl,i,rfl,v,rfl,?_,?_⟩;·rw[lA,if_pos a,eW];exact ah
   ·exactλb o hb h=>by rw[aP hb];exact B b o hb h
  ·have a:jf i∈cg kvs:=by simpa using a
   refine⟨_,rfl,i,rfl,v,rfl,?_,B⟩;rw[lA,if_neg (λz=>z a),eF];exact p
 ·have e:¬(((mW (cg kvs) i).map V.str).length:Int)<(c:Int):=of_decide_eq_false (Bool.eq_false_iff.mpr e);have W:(mW (cg kvs) i).length=c:=by omega
  obtain⟨l,hl⟩:=Mu (cg kvs) (show i<=702 by omega);rw[hl,List.take_append_of_le_length (by omega),rY (by omega)]at q;exact⟨_,rfl,q pl H' d (λb o h=>r b o (ay h d) (u b o h)) n⟩
noncomputable def tH(x:Str)(i:Nat):Int:=if decide (V.int i=dw x)=true then 1 else 0
noncomputable def bW:Nat->Int->D->List Int|n+1,b, .tup (.str x::ps)=>if x="var"then(match ps with|[.int i]=>if b<=i then[i-b]else[]|_=>[])else((List.range (av x ps).length).map λi=>bW n (b+tH x i) (((av x ps)[i]?).getD .bA)).flatten|_,_,_=>[]
theorem Kq(x:Str)(i:Nat):0<=tH x i:=by unfold tH;split<;>decide
theorem yK(x:Str)(i:Nat):jZ x i= .int (tH x i):=by unfold jZ tH;split<;>rfl
theorem E9(f:Nat->List Int):∀(m j:Nat),j<=m->(((List.range j).map f).flatten).length<=(((List.range m).map f).flatten).length
 |0,j,h=>by rw[show j=0 by omega];exact zQ04 _
 |m+1,j,h=>by
  by_cases e:j=m+1;·rw[e];exact zQ04 _
  ·have :=E9 f m j (by omega);rw[List.range_succ,eW,List.flatten_append,cS];omega
theorem vj(f:Nat->List Int)(j:Nat):((List.range (j+1)).map f).flatten=((List.range j).map f).flatten++f j:=by rw[List.range_succ,eW,List.flatten_append];simp
def L8(n:Nat):Sp:=λvs H Q _=>∃(d:D)(v:V)(b:Int),vs=[v, .int b]/\Rep H d v/\Wf d/\depth d<n/\0<=b/\(bW n b d).length<=16000000/\∀(a:Addr)(H':Hp),H a=none->aE H H'->H' a=some (.lst ((bW n b d).map V.int))->Q (.ref a) H'
theorem dJ:aG ["thing","binders","numbers","kid","bound"] ["thing","binders"] (ak c6):=⟨rfl,rfl,rfl,by decide+kernel,rfl,by decide+kernel,by decide+kernel⟩
theorem o_{n:Nat}(D:Df K mg "numbers_free" c6 ["thing","binders"])(M:Mg mg t)(aV:bu P w K mg bx "kids_of" (1) ["thing"] fR)(cE:bu P w K mg bx "binds_of" (1) ["thing"] md)(gp:bu P w K mg bx "numbers_free" (n+3) ["thing","binders"] (L8 n)):bu P w K mg bx "numbers_free" (n+4) ["thing","binders"] (L8 (n+1)):=by
 refine D.ok dJ (λvs H Q E h=>?_) (λbase f bS A outer s H vs Q E hr h=>?_);·obtain⟨d,v,b,rfl,_⟩:=h;rfl
 obtain⟨d,v,b,rfl,r,mY,hd,hb,hl,q⟩:=h;refine⟨_,(ag (aT (aw aY (aX bB (pv 0) aj (λ_ _=>rfl)) aq (az _)) (ai (aA (jC (aw N5 (aX bB (pv 0) aj (λ_ _=>rfl)) (pv 1) (az _)) (bX (aa (aN iP (aX bB (pv 0) aj (λ_ _=>rfl)) (pv 1)) af)) (bX af)))) aC) (ag (aI (i:=2) dJ.nd rfl (cj rfl) (bX af)) (ag (dz PassesOwn.never rfl (FN rfl M.Ov (aa (aO aV hr.m rfl aQ (aa (pv 0) af)) (aa (aO cE hr.m rfl aQ (aa (pv 0) af)) af))) (H_ (n:=2) rfl (kW (bb (i:=3) dJ.nd rfl (cj rfl)) (kW (bb (i:=4) dJ.nd rfl (cj rfl)) FD))) (ai (dq (gg PySem.F.plainAttrs_list PySem.F.slot_list_extend PySem.F.type_list_extend nL (pv 2) (aa (aO gp hr.m rfl aQ (aa (pv 3) (aa (aN dN (pv 1) (pv 4)) af))) af))))) (ai (aA (pv 2)))))),?_⟩;try dsimp only[iF,cJ]
 refine pq ?_;intro _ _ _ _;obtain⟨x,ps,k,rfl,wf,vf⟩:=jy mY;have Rv:=uT wf;obtain⟨a,xR,rfl,ha,v0,xR,rfl,⟨rfl,hx⟩,rp⟩:=id r;have ea:lJ (V.str x::xR) 0=some (.str x):=aR (j:=0) rfl;refine⟨_,rfl,a,_,_,_,rfl,rfl,cu.of ha,ea,rfl,_,rfl,?_⟩;refine bL (λc=>?_) (λc=>?_)
 ·have c:V.str x=V.str "var":=of_decide_eq_true c;cases c;obtain⟨sh,e1,_,R,_,S,_⟩:=bw wf;rw[eJ]at e1;cases e1;rw[vh]at R S;obtain⟨g,rfl⟩:∃g,ps=[g]:=by cases ps with|nil=>simp at S|cons g rest=>cases rest with|nil=>exact⟨g,rfl⟩|cons _ _=>simp at S
  rw[bM,bF]at R;have hn:gW g=true:=by simpa[iX]using R.1
  obtain⟨i,rfl⟩:∃i,g= .int i:=by cases g<;>first|exact⟨_,rfl⟩|simp[gW]at hn
  obtain⟨u1,RD,rfl,J,_⟩:=rp;cases(show u1=V.int i from J);have e:bW (n+1) b (.tup [.str "var", .int i])=if b<=i then[i-b]else[]:=by rw[bW,if_pos rfl]
  rw[e]at q;refine⟨_,rfl,a,_,_, .int i,rfl,rfl,cu.of ha,aR (j:=1) rfl,_,rfl,_,_,rfl,rfl,_,rfl,?_⟩;refine bL (λc=>?_) (λc=>?_);·have c:b<=i:=of_decide_eq_true c;rw[if_pos c]at q;exact⟨_,rfl,a,_,_, .int i,rfl,rfl,cu.of ha,aR (j:=1) rfl,_,rfl,_,_,rfl,rfl,(gu rfl),λp m=>q p _ m (ao m _) ah⟩
  ·have c:¬b<=i:=of_decide_eq_false (Bool.eq_false_iff.mpr c);rw[if_neg c]at q;exact⟨(gu rfl),λp m=>q p _ m (ao m _) ah⟩
 have hv:x≠"var":=λz=>c (by rw[z];exact decide_eq_true rfl);have e:bW (n+1) b (.tup (.str x::ps))=((List.range (av x ps).length).map λi=>bW n (b+tH x i) (((av x ps)[i]?).getD .bA)).flatten:=by
  conv=>lhs;unfold bW
  exact if_neg hv
 rw[e]at q hl;refine⟨(gu rfl),λg B=>?_⟩;refine⟨_,rfl,x,ps,_,rfl,r.mono (ao B _),vf,λp1 us H1 GW s1 h1 J=>⟨_,rfl,x,ps,_,k,rfl,(r.mono (ao B _)).mono s1,wf,λI Z s2 h2=>?_⟩⟩;have sA:=(ao B (.lst [])).trans (s1.trans s2);have T:Z g=some (.lst []):=s2 _ _ (s1 _ _ ah);have U:=s2 _ _ h1;have l1:=J.length;have Wc:p1≠g:=λz=>by rw[z,ah]at GW;cases GW
 have r1':=J.mono s2;refine⟨p1,I,us,_,rfl,aZ.of U,aZ.of h2,eA us.length (λj Y H'=>∃kv O,Y=[some (.ref a),some (.int b),some (.ref g),kv,O]/\H' g=some (.lst ((((List.range j).map λi=>bW n (b+tH x i) (((av x ps)[i]?).getD .bA)).flatten).map V.int))/\bg g Z H') ⟨none,none,rfl,T,λ_ _ _ h=>h⟩ ?_ ?_⟩
 ·rintro i Y C hi⟨kv,O,rfl,m,u⟩;have X:i<(av x ps).length:=by omega
  have n20:I≠g:=λz=>by rw[z,T]at h2;have :=congrArg (λo=>match o with|some (HO.lst l)=>l.length|_=>0) h2;simp[kh]at this;omega
  obtain⟨F,G⟩:∃F,(av x ps)[i]?=some F:=⟨_,zQ03 X⟩;obtain⟨N,EN,Mo⟩:=r1'.get G;have hbi:(kh x (av x ps).length)[i]?=some (.int (tH x i)):=by unfold kh;rw[gs,List.getElem?_range X];show some (jZ x i)=_;rw[yK]
  have g1:=u _ _ Wc U;have g2:=u _ _ n20 h2;refine⟨⟨us,_,N,_,aZ.of g1,aZ.of g2,EN,hbi⟩,?_⟩;rintro y H4⟨p,x',y',rfl,hpn,rfl,hy⟩;obtain⟨y1,y2⟩:=hy us _ (aZ.of g1) (aZ.of g2);rw[EN]at y1;rw[hbi]at y2;cases y1;cases y2;have L:=ao hpn (.tup [N, .int (tH x i)]);obtain⟨w1,w2⟩:=dy wf G;have W:=E9 (λi=>bW n (b+tH x i) (((av x ps)[i]?).getD .bA)) (av x ps).length (i+1) X;rw[vj,cS,G]at W;have K9:Rep C F N:=Rep.d9 u (λvs=>by rw[T];exactλz=>nomatch z) Mo;refine⟨p,_,rfl,cu.of ah,rfl,_,_,rfl,_,_,rfl,rfl,?_⟩;refine⟨_,rfl, .inl ⟨rfl,_,aZ.of (L _ _ m)⟩,_,rfl,_,rfl,_,rfl,_,_,rfl,rfl,F,N,b+tH x i,rfl,K9.mono L,w1,by omega,by have :=Kq x i;omega,by simp only[Option.getD_some]at W;omega,λp5 H5 hn5 s5 h5=>?_⟩;have e0:=s5 _ _ (L _ _ m);refine⟨g,p5,_,_,rfl,rfl,e0,h5,?_,_,_,rfl,?_,?_⟩;·rw[bD,bD,show sizeLine=16777216 by decide];simp only[Option.getD_some]at W;omega
  ·rw[vj,eW,G];exact ah
  ·exactλc o hc h=>by rw[aP hc];exact s5 _ _ (L _ _ (u c o hc h))
 ·rintro Y C⟨kv,O,rfl,m,u⟩;have st:∃ys,aZ K C I ys:=by
   by_cases z:I=g;·exact⟨_,by rw[z];exact aZ.of m⟩
   ·exact⟨_,aZ.of (u _ _ z h2)⟩
  obtain⟨ys,hys⟩:=st;rw[l1]at m;exact⟨⟨us,ys,aZ.of (u _ _ Wc U),hys,rfl⟩,_,rfl,q g C B (λc o h=>u c o (ay h B) (sA c o h)) m⟩
theorem jw(D:Df K mg "numbers_free" c6 ["thing","binders"])(M:Mg mg t)(c:bu P w K mg bx "kids_of" (1) ["thing"] fR)(a:bu P w K mg bx "binds_of" (1) ["thing"] md):∀n:Nat,bu P w K mg bx "numbers_free" (n+3) ["thing","binders"] (L8 n)|0=>bu.never D λvs H Q E⟨d,v,b,_,_,_,h,_⟩=>absurd h (Nat.not_lt_zero _)|n+1=>o_ D M c a (jw D M c a n)
def Xl(n:Nat):Sp:=λvs H Q _=>∃(d:D)(v:V),vs=[v]/\Rep H d v/\Wf d/\depth d<n/\(bW n 0 d).length<=16000000/\(∀z,z∈bW n 0 d->0<=z/\z<63)/\∀(a:Addr)(b:List Int)(H':Hp),H a=none->aE H H'->b.Pairwise (·<·)->(∀z,z∈b↔z∈bW n 0 d)->H' a=some (.lst (b.map V.int))->Q (.ref a) H'
theorem Dj:aG ["thing"] ["thing"] (ak jE):=⟨rfl,rfl,rfl,by decide+kernel,rfl,by decide+kernel,by decide+kernel⟩
theorem Hr(D:Df K mg "free_in" jE ["thing"])(M:Mg mg t)(b:bu P w K mg bx "numbers_free" (63) ["thing","binders"] (L8 60)):bu P w K mg bx "free_in" (140) ["thing"] (Xl 60):=by
 refine D.ok Dj (λvs H Q E h=>?_) (λbase f bS A outer s H vs Q E hr h=>?_);·obtain⟨d,v,rfl,_⟩:=h;rfl
 obtain⟨d,v,rfl,r,j,hd,hl,e,q⟩:=h;have hh:=hr.hd (by decide);refine⟨_,(ai (aA (za hh rfl M.JX rfl M.WU Gs SF (aa (aO b hr.m rfl aQ (aa (pv 0) (aa aj af))) af)))),?_⟩;try dsimp only[iF,n]
 exact⟨_,rfl,d,v,0,rfl,r,j,hd,by decide,hl,λi m o s1 h1=>⟨i,bW 60 0 d,rfl,aZ.of h1,e,λl k a g c=>q l k _ (s1.free a) (s1.trans (ao a _)) g c ah⟩⟩
noncomputable def ig(x:Str)(i:Nat):Nat:=if decide (V.int i=dw x)=true then 1 else 0
theorem EV(x:Str)(i:Nat):tH x i=((ig x i:Nat):Int):=by unfold tH ig;split<;>rfl
noncomputable def jT(m:Nat):Str:=Str.ofString (toString ((m:Nat):Int))
noncomputable def pR:Nat->List Str->List Str->D->Str
 |n+1,A,L, .tup (.str x::ps)=>if x="var"then(match ps with|[.int i]=>(A[i.toNat]?).getD ""|_=>"")else if x="name"then(match ps with|[.str z]=>z|_=>"")else match kO (n+1) (.tup (.str x::ps))with|some m=>jT m|none=>if av x ps=[]then x else"("++Txt.join " " (x::((if fQ x BO then L.take 1 else[])++(List.range (av x ps).length).map λi=>pR n (L.take (ig x i)++A) (L.drop (ig x i)) (((av x ps)[i]?).getD .bA)))++")"
 |_,_,_,_=>""
noncomputable def tP:Nat->Nat->D->Prop|n+1,m, .tup (.str x::ps)=>if x="var"then(match ps with|[.int i]=>i<m|_=>True)else∀i p,(av x ps)[i]?=some p->tP n (m+ig x i) p|_,_,_=>True
structure Nl(A:List Str):Prop where
 LL:A.length<=400
 sh:∀z,z∈A->z.length<=1000
def MN(n:Nat):Sp:=λvs H Q _=>∃(d:D)(v:V)(a b:Addr)(A L:List Str),vs=[v, .ref a, .ref b]/\Rep H d v/\Wf d/\depth d<n/\H a=some (.lst (A.map V.str))/\H b=some (.lst (L.map V.str))/\(∀z,z∈A++L->z.length<=1000)/\A.length+L.length<=400/\depth d<=L.length/\tP n A.length d/\aD d<=10000/\(∀z,z∈bz n d->z.length<=1000)/\∀H',aE H H'->Q (.str (pR n A L d)) H'
theorem FQ:∀(n:Nat)(d:D)(m:Nat),Wf d->kO n d=some m->m+1<=depth d
 |0,d,m,_,h=>by unfold kO at h;cases h
 |n+1,d,m,⟨k,wf⟩,h=>by
  obtain⟨x,ps,rfl⟩:=eN wf;by_cases a:x="next"
  ·subst a;obtain⟨p,rfl⟩:=sN wf;rw[kO,if_pos rfl]at h;cases e:kO n p with
    |none=>rw[e]at h;cases h
    |some f=>
     rw[e]at h;have c:av "next" [p]=[p]:=by unfold av;rw[if_neg (by decide+kernel)]
     obtain⟨g,j⟩:=dy wf (i:=0) (p:=p) (by rw[c];rfl);have :=FQ n p f g e;simp at h;omega
  ·have b:kO (n+1) (.tup (.str x::ps))=if x="zero"then some 0 else none:=by
    conv=>lhs;unfold kO
    exact if_neg a
   rw[b]at h;have :1<=depth (.tup (.str x::ps)):=by simp only[depth];omega
   split at h;·cases h;omega
   ·cases h
theorem W4{m:Nat}(h:m<1000):(((m:Nat):Int)).natAbs.log2<1920:=by
 rw[Int.natAbs_natCast];by_cases a:m=0;·rw[a];decide
 ·have :=(Nat.log2_lt a).mpr (show m<2^1920 from gc h (by decide));exact this
noncomputable def FR:List Str->Str|[]=>""|z::a=>" "++z++FR a
theorem Bo:∀(ys:List Str)(A:Array Nat),ys.foldl (λb p=>b++(Str.ofString " ").cps++p.cps) A=A++(FR ys).cps
 |[],A=>by
  have e:(FR []).cps=#[]:=by decide+kernel
  rw[e];simp
 |z::a,A=>by rw[List.foldl_cons,Bo a];show _=A++((Str.ofString " ").cps++z.cps++(FR a).cps);simp
theorem tq(y:Str)(ys:List Str):Txt.join " " (y::ys)=y++FR ys:=by show(⟨((y::ys).drop 1).foldl (λa p=>a++(Str.ofString " ").cps++p.cps) ((y::ys).headD Str.empty).cps⟩:Str)=⟨y.cps++(FR ys).cps⟩;rw[List.drop_succ_cons,List.drop_zero,Bo];rfl
theorem wq:∀ys:List Str,(FR ys).length=(ys.map (·.length)).sum+ys.length|[]=>rfl|z::a=>by rw[FR,Str.length_append,Str.length_append,wq a,cD,List.sum_cons,b_,show(Str.ofString " ").length=1 from rfl];omega
noncomputable def kN(n:Nat)(A L:List Str)(x:Str)(ks:List D)(j:Nat):List Str:=(List.range j).map λi=>pR n (L.take (ig x i)++A) (L.drop (ig x i)) ((ks[i]?).getD .bA)
theorem vd{f g:Nat->Nat}:∀m:Nat,(∀i,i<m->f i<=g i)->((List.range m).map f).sum<=((List.range m).map g).sum|0,_=>zQ04 _|m+1,h=>by rw[List.range_succ,eW,eW,List.sum_append,List.sum_append];have :=vd m λi hi=>h i (by omega);have :=h m (by omega);simp;omega
theorem RH(f:D->Nat)(ks:List D):(List.range ks.length).map (λi=>f ((ks[i]?).getD .bA))=ks.map f:=by
 apply List.ext_getElem?;intro i;rw[gs,gs];by_cases h:i<ks.length;·rw[List.getElem?_range h,zQ03 h];simp[h]
 ·rw[List.getElem?_eq_none (by simpa using h),List.getElem?_eq_none (by simpa using h)];rfl
theorem D8(c:Nat):∀l:List Nat,(l.map (c*·)).sum=c*l.sum|[]=>rfl|a::l=>by rw[cD,List.sum_cons,List.sum_cons,D8 c l,Nat.mul_add]
theorem Fe{k:Bool}{x:Str}{ps:List D}(wf:dC aS k (.tup (.str x::ps))=true):x.length<=8:=by
 obtain⟨sh,_,_,_,_,_,_,_,r,h,_⟩:=bw wf;have all:∀y∈ba.map Prod.fst,y.length<=8:=by decide+kernel
 refine all x ?_;have :∀(l:List (Str×_)),l.lookup x=some r->x∈l.map Prod.fst:=by
  intro l;induction l with
   |nil=>intro h;cases h
   |cons a l b=>
    intro h;rw[jk]at h;split at h;·rename_i e;rw[cD];exact List.mem_cons.mpr (.inl (by simpa using e))
    ·exact ck _ (b h)
 exact this _ h
theorem MR(m:Nat):(jT m).length<=m+1:=by have h:=(Mj (n:=m) (k:=m+1) (by omega) (gc (Nat.lt_pow_self (by decide:1<10)) (Nat.pow_le_pow_right (by decide) (by omega)))).2;rw[Array.length_toList]at h;exact h
theorem Eg:∀l:List D,(∀d,d∈l->depth d<=aD d)->pK (l.map depth)<=(l.map aD).sum|[],_=>zQ04 _|a::l,h=>by have h1:=Eg l λd hd=>h d (ck _ hd);have h2:=h a bI;rw[cD,cD,List.sum_cons];show max (depth a) (pK (l.map depth))<=_;omega
theorem Kx:∀(n:Nat)(d:D),depth d<n->Wf d->depth d<=aD d
 |0,d,h,_=>absurd h (Nat.not_lt_zero _)
 |n+1,d,h,⟨k,wf⟩=>by
  obtain⟨x,ps,rfl⟩:=eN wf;obtain⟨a,b⟩:=cc wf;rw[a,b];have :=Eg (av x ps) λd hd=>by obtain⟨i,hi⟩:=List.getElem?_of_mem hd;obtain⟨c,e⟩:=dy wf hi;exact Kx n d (by omega) c
  omega
theorem qj{n:Nat}{x:Str}{ps:List D}{i:Nat}{p:D}{z:Str}(a:x≠"name")(e:(av x ps)[i]?=some p)(h:z∈bz n p):z∈bz (n+1) (.tup (.str x::ps)):=by unfold bz;rw[if_neg a];have hi:i<(av x ps).length:=(List.getElem?_eq_some_iff.mp e).1;exact List.mem_flatten.mpr ⟨_,List.mem_map.mpr ⟨i,List.mem_range.mpr hi,rfl⟩,by rw[e,Option.getD_some];exact h⟩
theorem yt{P:Str->Prop}{A L:List Str}(h:∀z,z∈A++L->P z)(b:Nat):∀z,z∈L.take b++A++L.drop b->P z:=λz a=>h z (by
 rw[List.mem_append,List.mem_append]at a;rw[List.mem_append];rcases a with(a|a)|a;·exact .inr (tR a)
 ·exact .inl a
 ·exact .inr (List.mem_of_mem_drop a))
theorem u9{n B C:Nat}{A L:List Str}{x:Str}{ks:List D}(c:x.length<=8)(b:∀z,z∈A++L->z.length<=B)(h:∀i,i<ks.length->(pR n (L.take (ig x i)++A) (L.drop (ig x i)) ((ks[i]?).getD .bA)).length<=C*aD ((ks[i]?).getD .bA))(a:ks.length<=4):((x::((if fQ x BO then L.take 1 else[])++kN n A L x ks ks.length)).map (·.length)).sum+(x::((if fQ x BO then L.take 1 else[])++kN n A L x ks ks.length)).length<=B+20+C*(ks.map aD).sum/\(x::((if fQ x BO then L.take 1 else[])++kN n A L x ks ks.length)).length<=6:=by
 have h1:((kN n A L x ks ks.length).map (·.length)).sum<=C*(ks.map aD).sum:=by rw[<-D8,List.map_map,<-RH,kN,List.map_map];exact vd _ h
 have h2:(kN n A L x ks ks.length).length<=4:=by rw[kN,bD,List.length_range];exact a
 have h3:((if fQ x BO then L.take 1 else[]).map (·.length)).sum<=B/\(if fQ x BO then L.take 1 else[]).length<=1:=by
  split;·cases L with|nil=>simp|cons z L=>have :=b z (by simp);simpa using this
  ·simp
 generalize C*(ks.map aD).sum=T at h1⊢;rw[cD,eW,List.sum_cons,List.sum_append,b_,cS];omega
theorem xF(B:Nat):∀(n:Nat)(A L:List Str)(d:D),Wf d->depth d<n->(∀z,z∈A++L->z.length<=B)->(∀z,z∈bz n d->z.length<=B)->(pR n A L d).length<=(B+50)*aD d
 |0,A,L,d,_,h,_,_=>absurd h (Nat.not_lt_zero _)
 |n+1,A,L,d,⟨k,wf⟩,hd,c,hm=>by
  obtain⟨x,ps,rfl⟩:=eN wf;obtain⟨g,y⟩:=cc wf;have p:=uT wf;have h3:=Kx (n+1) _ hd ⟨k,wf⟩;have f:(Str.ofString "").length=0:=rfl;have r:=Fe wf;rw[g]at h3⊢;have hS:=Nat.le_mul_of_pos_left (((av x ps).map aD).sum) (show 0<B+50 by omega);rw[Nat.mul_add,Nat.mul_one];unfold pR;split
  ·split
   ·rename_i i;have :((A[i.toNat]?).getD "").length<=B:=by cases e:A[i.toNat]? with|none=>rw[Option.getD_none,f];omega|some z=>exact c z (List.mem_append.mpr (.inl (m_ e)))
    omega
   ·rw[f];omega
  split
  ·rename_i l;split;·rename_i z;have :=hm z (by unfold bz;rw[if_pos l];exact List.mem_singleton.mpr rfl);omega
   ·rw[f];omega
  rename_i j;split;·rename_i m hm;have h1:=MR m;have h2:=FQ (n+1) _ m ⟨k,wf⟩ hm;omega
  split;·omega
  ·have q:=(u9 (n:=n) (A:=A) (L:=L) (x:=x) (ks:=av x ps) r c (λi hi=>by obtain⟨a,b⟩:∃a,(av x ps)[i]?=some a:=⟨_,zQ03 hi⟩;obtain⟨v,C⟩:=dy wf b;rw[b,Option.getD_some];exact xF B n _ _ a v (by omega) (yt c _) λz o=>hm z (qj j b o)) p).1;show("("++Txt.join " " (x::((if fQ x BO then L.take 1 else[])++kN n A L x (av x ps) (av x ps).length))++")").length<=_;rw[tq,Str.length_append,Str.length_append,Str.length_append,wq];rw[cD,List.sum_cons,b_]at q;have s:(Str.ofString "(").length=1:=rfl;have u:(Str.ofString ")").length=1:=rfl;rw[s,u];omega
theorem F0{n:Nat}{A L:List Str}{x:Str}{ks:List D}{i:Nat}{d:D}(h:ks[i]?=some d):kN n A L x ks (i+1)=kN n A L x ks i++[pR n (L.take (ig x i)++A) (L.drop (ig x i)) d]:=by rw[kN,List.range_succ,eW,kN,cD,h];rfl
theorem Er{n m:Nat}{x:Str}{ps:List D}{i:Nat}{d:D}(a:x≠"var")(h:tP (n+1) m (.tup (.str x::ps)))(e:(av x ps)[i]?=some d):tP n (m+ig x i) d:=by unfold tP at h;rw[if_neg a]at h;exact h i d e
theorem CH(x:Str)(i:Nat):ig x i<=1:=by unfold ig;split<;>decide
theorem E4(f:D->Nat){d:D}:∀{l:List D},d∈l->f d<=(l.map f).sum
 |a::l,h=>by
  rw[cD,List.sum_cons];rcases List.mem_cons.mp h with rfl|h;·omega
  ·have :=E4 f h;omega
theorem R6{m:Nat}(h:m<=1000):m<sizeLine:=Nat.lt_of_le_of_lt h (by decide)
theorem Kb{k:Bool}{x:Str}{ps:List D}{i:Nat}{d:D}(wf:dC aS k (.tup (.str x::ps))=true)(e:(av x ps)[i]?=some d):aD d<aD (.tup (.str x::ps)):=by have h:=(cc wf).1;have :aD d<=((av x ps).map aD).sum:=E4 aD (m_ e);omega
theorem dO:aG ["thing","around","left","number","kids","parts","kid","bound","inner"] ["thing","around","left"] (ak h_):=⟨rfl,rfl,rfl,by decide+kernel,rfl,by decide+kernel,by decide+kernel⟩
theorem DB{n:Nat}(D:Df K mg "text_of" h_ ["thing","around","left"])(M:Mg mg t)(aV:bu P w K mg bx "kids_of" (1) ["thing"] fR)(cE:bu P w K mg bx "binds_of" (1) ["thing"] md)(B:ic K t.de BO)(eS:bu P w K mg bx "number_told" (1) ["thing"] (Ti (n+1)))(nF:bu P w K mg bx "text_of" (n+3) ["thing","around","left"] (MN n)):bu P w K mg bx "text_of" (n+4) ["thing","around","left"] (MN (n+1)):=by
 refine D.ok dO (λvs H Q E h=>?_) (λbase f bS A outer s H vs Q E hr h=>?_);·obtain⟨d,v,R,I,A,L,rfl,_⟩:=h;rfl
 obtain⟨d,v,R,I,A,L,rfl,r,mY,hd,Z4,hlf,Nu,hal,hdl,hcl,Uu,hmn,q⟩:=h;have hu:=vy hr;refine⟨_,(ag (aT (aw aY (aX bB (pv 0) aj (λ_ _=>rfl)) aq (az _)) (ai (aA (aX bJ (pv 1) (aX bB (pv 0) aj (λ_ _=>rfl)) (λ_ _=>rfl)))) aC) (ag (aT (aw aY (aX bB (pv 0) aj (λ_ _=>rfl)) aq (az _)) (ai (aA (aX bB (pv 0) aj (λ_ _=>rfl)))) aC) (ag (aI (i:=3) dO.nd rfl (cj rfl) (aO eS hr.m rfl aQ (aa (pv 0) af))) (ag (aT (aw E3 (pv 3) ni (az _)) (ai (aA (bY vb rfl M.KY CI (aa (pv 3) af)))) aC) (ag (aI (i:=4) dO.nd rfl (cj rfl) (aO aV hr.m rfl aQ (aa (pv 0) af))) (ag (aT (aw aY (aJ aM rfl M.cH bO (aa (pv 4) af)) aj (az _)) (ai (aA (aX bB (pv 0) aj (λ_ _=>rfl)))) aC) (ag (aI (i:=5) dO.nd rfl (cj rfl) (bX (aa (aX bB (pv 0) aj (λ_ _=>rfl)) af))) (ag (aT (aw Hc (aX bB (pv 0) aj (λ_ _=>rfl)) (gD M.g_BINDER_OVER rfl) rfl) (ai (dq (gg PySem.F.plainAttrs_list PySem.F.slot_list_append PySem.F.type_list_append dj (pv 5) (aa (aX bJ (pv 2) aj (λ_ _=>rfl)) af)))) aC) (ag (dz PassesOwn.never rfl (FN rfl M.Ov (aa (pv 4) (aa (aO cE hr.m rfl aQ (aa (pv 0) af)) af))) (H_ (n:=2) rfl (kW (bb (i:=6) dO.nd rfl (cj rfl)) (kW (bb (i:=7) dO.nd rfl (cj rfl)) FD))) (ai (dq (gg PySem.F.plainAttrs_list PySem.F.slot_list_append PySem.F.type_list_append dj (pv 5) (aa (aO nF hr.m rfl aQ (aa (pv 6) (aa (aN CW (eX qd (pv 2) fK (eT (pv 7))) (pv 1)) (aa (eX qd (pv 2) (eT (pv 7)) fK) af)))) af))))) (ag (aI (i:=8) dO.nd rfl (cj rfl) (gg PySem.F.plainAttrs_str PySem.F.slot_str_join PySem.F.type_str_join NI aq (aa (pv 5) af))) (ai (aA (Ru (pv 8)))))))))))))),?_⟩;try dsimp only[iF,cJ]
 refine Yw ?_;intro _ _ _ _ _ _ _ _ _ _ _;rename_i D0 v11 v10 v9 v8 v7 v6 v5 v4 v3 v2;obtain⟨x,ps,k,rfl,wf,vf⟩:=jy mY;have Rv:=uT wf;obtain⟨a,xR,rfl,ha,v0,xR,rfl,⟨rfl,hx⟩,rp⟩:=id r;have S:lJ (V.str x::xR) 0=some (.str x):=aR (j:=0) rfl;refine⟨_,rfl,a,_,_,_,rfl,rfl,cu.of ha,S,rfl,_,rfl,?_⟩;refine bL (λc=>?_) (λc=>?_)
 ·have c:V.str x=V.str "var":=of_decide_eq_true c;cases c;obtain⟨sh,e1,_,e3,_,e5,_⟩:=bw wf;rw[eJ]at e1;cases e1;rw[vh]at e3 e5;obtain⟨G,rfl⟩:∃G,ps=[G]:=by cases ps with|nil=>simp at e5|cons G rest=>cases rest with|nil=>exact⟨G,rfl⟩|cons _ _=>simp at e5
  rw[bM,bF]at e3;have hn:gW G=true:=by simpa[iX]using e3.1
  obtain⟨i,rfl⟩:∃i,G= .int i:=by cases G<;>first|exact⟨_,rfl⟩|simp[gW]at hn
  obtain⟨u1,RD,rfl,J,_⟩:=rp;cases(show u1=V.int i from J);have h0:0<=i:=by simp[gW]at hn;omega
  have hi:i<A.length:=by rw[tP,if_pos rfl]at hcl;exact hcl
  have e:pR (n+1) A L (.tup [.str "var", .int i])=(A[i.toNat]?).getD "":=by rw[pR,if_pos rfl]
  rw[e]at q;obtain⟨z,F⟩:∃z,A[i.toNat]?=some z:=⟨_,zQ03 (by omega)⟩;rw[F]at q;refine⟨_,rfl,_,rfl,a,_,_, .int i,rfl,rfl,cu.of ha,aR (j:=1) rfl,R,_,i, .str z,rfl,rfl,aZ.of Z4,?_,q H (aE.refl H)⟩;rw[show i=((i.toNat:Nat):Int)by omega];exact aR (by rw[gs,F];rfl)
 have hv:x≠"var":=λz=>c (by rw[z];exact decide_eq_true rfl);refine⟨_,rfl,a,_,_,_,rfl,rfl,cu.of ha,S,rfl,_,rfl,?_⟩;refine bL (λc=>?_) (λc=>?_)
 ·have c:V.str x=V.str "name":=of_decide_eq_true c;cases c;obtain⟨z,rfl⟩:=g8 wf;obtain⟨u1,RD,rfl,⟨J,_⟩,_⟩:=rp;subst J;have e:pR (n+1) A L (.tup [.str "name", .str z])=z:=by rw[pR,if_neg hv,if_pos rfl]
  rw[e]at q;exact⟨_,rfl,a,_,_, .str z,rfl,rfl,cu.of ha,aR (j:=1) rfl,q H (aE.refl H)⟩
 have oZ:x≠"name":=λz=>c (by rw[z];exact decide_eq_true rfl);have e:pR (n+1) A L (.tup (.str x::ps))=match kO (n+1) (.tup (.str x::ps))with|some m=>jT m|none=>if av x ps=[]then x else"("++Txt.join " " (x::((if fQ x BO then L.take 1 else[])++(List.range (av x ps).length).map λi=>pR n (L.take (ig x i)++A) (L.drop (ig x i)) (((av x ps)[i]?).getD .bA)))++")":=by
  conv=>lhs;unfold pR
  rw[if_neg hv,if_neg oZ]
 rw[e]at q;refine⟨_,rfl,_,_,rfl,r,mY,hd,?_⟩;cases M3:kO (n+1) (.tup (.str x::ps))with
  |some m=>rw[M3]at q;have hm:=FQ _ _ _ mY M3;exact⟨_,rfl,rfl,_,rfl,bj ⟨_,rfl,(m:Int),rfl,W4 (by omega),q H (aE.refl H)⟩⟩
  |none=>
   rw[M3]at q;refine⟨_,rfl,rfl,_,rfl,bR ?_⟩;refine⟨_,rfl,x,ps,_,rfl,r,vf,λT us H1 GW s1 h1 J=>?_⟩;have l1:=J.length;refine⟨_,rfl,T,us,rfl, .inl (aZ.of h1),rfl,_,rfl,?_⟩;refine bL (λc=>?_) (λc=>?_)
   ·have F:us=[]:=by have c:V.int ((us.length:Nat):Int)=V.int 0:=of_decide_eq_true c;injection c with c;exact List.length_eq_zero_iff.mp (by omega)
    have hk:av x ps=[]:=List.length_eq_zero_iff.mp (by rw[<-l1,F];rfl);rw[if_pos hk]at q;exact⟨_,rfl,a,_,_,_,rfl,rfl,cu.of (s1 _ _ ha),S,q H1 s1⟩
   have hne:us≠[]:=λz=>c (by rw[z];rfl);have hk:av x ps≠[]:=λz=>hne (List.length_eq_zero_iff.mp (by rw[l1,z];rfl));rw[if_neg hk]at q;refine⟨_,rfl,a,_,_,_,rfl,rfl,cu.of (s1 _ _ ha),S,(gu rfl),λb hV=>?_⟩;have s2:=ao hV (.lst [V.str x]);have h2:(upd H1 b (.lst [V.str x])) b=some (.lst ([x].map V.str)):=ah;have PL:H b=none:=s1.free hV;have n12:T≠b:=ay h1 hV;generalize upd H1 b (.lst [V.str x])=H2 at s2 h2⊢;have Ma:=s1.trans s2;have rest:∀O:Hp,bg b H2 O->O b=some (.lst ((x::(if fQ x BO then L.take 1 else[])).map V.str))->v9 D0 [some (.ref a),some (.ref R),some (.ref I),some .bA,some (.ref T),some (.ref b),none,none,none] O:=by
    intro O sx yL;have Z:=sx _ _ n12 (s2 _ _ h1);have m2:∀(c:Addr)(o:HO),H c=some o->O c=some o:=λc o h=>sx c o (ay h PL) (Ma c o h);refine⟨_,rfl,_,rfl,x,ps,_,k,rfl,r.mono m2,wf,λp4 H4 N h4=>?_⟩;have LM:=N _ _ yL;have Cu:=N _ _ Z;have r1':bK H4 (av x ps) us:=bK.mono N (bK.d9 sx (λvs=>by rw[h2];exactλz=>nomatch z) (J.mono s2));have n42:p4≠b:=λz=>by rw[z,LM]at h4;cases e:(av x ps).length with|zero=>exact hk (List.length_eq_zero_iff.mp e)|succ l=>rw[e]at h4;have :=congrArg (λo=>match o with|some (HO.lst (V.str _::_))=>1|_=>0) h4;simp[kh,List.range_succ_eq_map,yK]at this
    refine⟨T,p4,us,_,rfl,aZ.of Cu,aZ.of h4,eA us.length (λj a_ H'=>∃kv bv,a_=[some (.ref a),some (.ref R),some (.ref I),some .bA,some (.ref T),some (.ref b),kv,bv,none]/\H' b=some (.lst ((x::((if fQ x BO then L.take 1 else[])++kN n A L x (av x ps) j)).map V.str))/\bg b H4 H') ⟨none,none,rfl,by rw[LM];simp[kN],λ_ _ _ h=>h⟩ ?_ ?_⟩
    ·rintro i a_ X hi⟨kv,bv,rfl,hp,u⟩;have L0:i<(av x ps).length:=by omega
     obtain⟨C,g⟩:∃C,(av x ps)[i]?=some C:=⟨_,zQ03 L0⟩;obtain⟨W,EN,Mo⟩:=r1'.get g;have hbi:(kh x (av x ps).length)[i]?=some (.int (ig x i)):=by unfold kh;rw[gs,List.getElem?_range L0];show some (jZ x i)=_;rw[yK,EV]
     have Z:=u _ _ n12 Cu;have g4:=u _ _ n42 h4;refine⟨⟨us,_,W,_,aZ.of Z,aZ.of g4,EN,hbi⟩,?_⟩;rintro y H6⟨p,x',y',rfl,hpn,rfl,hy⟩;obtain⟨y1,y2⟩:=hy us _ (aZ.of Z) (aZ.of g4);rw[EN]at y1;rw[hbi]at y2;cases y1;cases y2;have U:=ao hpn (.tup [W, .int (ig x i)]);obtain⟨w1,w2⟩:=dy wf g;have K9:Rep X C W:=Rep.d9 u (λvs=>by rw[LM];exactλz=>nomatch z) Mo;refine⟨p,_,rfl,cu.of ah,rfl,_,_,rfl,_,_,rfl,rfl,?_⟩;have LP:=CH x i;have Ux:=U _ _ hp;have Yp:=U _ _ (u _ _ (ay hlf PL) (N _ _ (m2 _ _ hlf)));have aaR:=U _ _ (u _ _ (ay Z4 PL) (N _ _ (m2 _ _ Z4)));refine⟨_,rfl, .inl ⟨rfl,_,aZ.of Ux⟩,_,rfl,_,rfl,_,rfl,_,rfl,I,_,rfl,aZ.of Yp,λp7 hp7=>?_⟩;rw[Ea,<-List.map_take];have s7:=ao hp7 (.lst ((L.take (ig x i)).map V.str));refine⟨_,rfl,p7,R,_,_,rfl,rfl,ah,s7 _ _ aaR,(by rw[bD,bD,jx];exact big (by omega)),λp8 Y7=>?_⟩;rw[<-eW];have s8:=s7.trans (ao Y7 (.lst ((L.take (ig x i)++A).map V.str)));have h8:(upd (upd (upd X p (.tup [W, .int (ig x i)])) p7 (.lst ((L.take (ig x i)).map V.str))) p8 (.lst ((L.take (ig x i)++A).map V.str))) p8=some (.lst ((L.take (ig x i)++A).map V.str)):=ah;refine⟨_,rfl,_,rfl,_,rfl,I,_,rfl,aZ.of (s8 _ _ Yp),λp9 hp9=>?_⟩;rw[gY,<-List.map_drop];have s9:=ao hp9 (.lst ((L.drop (ig x i)).map V.str));refine⟨C,W,p8,p9,_,_,rfl,(K9.mono U).mono (s8.trans s9),w1,by omega,s9 _ _ h8,ah,yt Nu _,?_,?_,?_,?_,λz F=>hmn z (qj oZ g F),λH' LR=>?_⟩;·rw[cS,jx,jP];omega
     ·rw[jP];omega
     ·have :=Er hv hcl g;rw[cS,jx,Nat.min_eq_left (by omega),Nat.add_comm];exact this
     ·have :=Kb wf g;omega
     refine⟨b,_,_,rfl,rfl,LR _ _ (s9 _ _ (s8 _ _ Ux)),?_,_,_,rfl,?_,?_⟩
     ·rw[bD,b_,cS,kN,bD,List.length_range];have :(if fQ x BO=true then L.take 1 else[]).length<=1:=by
       split;·rw[jx];omega
       ·exact zQ25 _
      exact R6 (by omega)
     ·rw[ah,F0 g];simp only[cD,eW,List.append_assoc,List.cons_append,List.map_nil]
     ·exactλc o hc h=>by rw[aP hc];exact LR _ _ (s9 _ _ (s8 _ _ (U _ _ (u c o hc h))))
    ·rintro a_ X⟨kv,bv,rfl,hp,u⟩;have key:=u9 (n:=n) (A:=A) (L:=L) (x:=x) (ks:=av x ps) (Fe wf) Nu (λi hi=>by obtain⟨C,g⟩:∃C,(av x ps)[i]?=some C:=⟨_,zQ03 hi⟩;obtain⟨w1,w2⟩:=dy wf g;rw[g,Option.getD_some];exact xF 1000 n _ _ C w1 (by omega) (yt Nu _) λz F=>hmn z (qj oZ g F)) Rv;have kk:=(cc wf).1;rw[l1]at hp;refine⟨⟨us,_,aZ.of (u _ _ n12 Cu),aZ.of (u _ _ n42 h4),rfl⟩,?_⟩;refine⟨rfl,_,rfl," ",b,_,rfl,rfl,aZ.of hp,?_,_,rfl,_,rfl,?_,q X ?_⟩;·rw[show(Str.ofString " ").length=1 from rfl];omega
     ·rw[tq,Str.length_append,wq];rw[cD,List.sum_cons,b_]at key;exact cw (m:=16777216) (by omega) (by decide)
     ·exactλc o h=>u c o (ay h PL) (N _ _ (m2 c o h))
   refine⟨_,rfl,a,_,_,_,rfl,rfl,cu.of (Ma _ _ ha),S,x,_,_,rfl,rfl,B,_,rfl,?_⟩;refine bL (λc=>?_) (λc=>?_)
   ·have c:fQ x BO=true:=c;obtain⟨z,Y,rfl⟩:∃z Y,L=z::Y:=by cases L with|nil=>have :=(cc wf).2;simp at hdl;omega|cons z Y=>exact⟨z,Y,rfl⟩
    refine⟨_,rfl, .inl ⟨rfl,_,aZ.of h2⟩,_,rfl,I,_,_, .str z,rfl,rfl,aZ.of (Ma _ _ hlf),aR (j:=0) rfl,b,_,_,rfl,rfl,h2,(by show 1<sizeLine;decide),?_⟩;refine rest _ (bg.upd _) ?_;rw[if_pos c];exact ah
   ·have c:¬fQ x BO=true:=c;refine rest _ (λ_ _ _ h=>h) ?_;rw[if_neg c];exact h2
theorem uY(D:Df K mg "text_of" h_ ["thing","around","left"])(M:Mg mg t)(b:bu P w K mg bx "kids_of" (1) ["thing"] fR)(a:bu P w K mg bx "binds_of" (1) ["thing"] md)(B:ic K t.de BO)(c:∀n,bu P w K mg bx "number_told" (1) ["thing"] (Ti n)):∀n:Nat,bu P w K mg bx "text_of" (n+3) ["thing","around","left"] (MN n)|0=>bu.never D λvs H Q E⟨d,v,e,f,A,L,_,_,_,h,_⟩=>absurd h (Nat.not_lt_zero _)|n+1=>DB D M b a B (c (n+1)) (uY D M b a B c n)
noncomputable def lW(kvs:List (Key×V))(a:List Str):List (Key×V):=a.foldl (λk z=>putK k (Sum.inr z) (.bl true)) kvs
theorem kY{z:Str}:∀{kvs:List (Key×V)},(kvs.any λkv=>decide (kv.1=Sum.inr z))=true↔z∈cg kvs
 |[]=>by simp[cg]
 |(k,v)::r=>by
  have a:=kY (z:=z) (kvs:=r);rw[List.any_cons,Bool.or_eq_true,a];cases k with
   |inl i=>have e:cg ((Sum.inl i,v)::r)=cg r:=rfl;rw[e];simp
   |inr y=>
    have e:cg ((Sum.inr y,v)::r)=y::cg r:=rfl;rw[e,zQ29];have :decide ((Sum.inr y:Key)=Sum.inr z)=true↔z=y:=by rw[decide_eq_true_iff];exact⟨λh=>by injection h with h;exact h.symm,λh=>by rw[h]⟩
    rw[this]
theorem yG(kvs:List (Key×V))(z:Str)(v:V):cg (putK kvs (Sum.inr z) v)=if z∈cg kvs then cg kvs else cg kvs++[z]:=by
 unfold putK;by_cases h:z∈cg kvs
 ·rw[if_pos (kY.mpr h),if_pos h];unfold cg;rw[List.filterMap_map];congr 1;funext p;have e:(if p.1=Sum.inr z then(p.1,v)else p).1=p.1:=by split<;>rfl
  show(match(if p.1=Sum.inr z then(p.1,v)else p).1 with| .inr z=>some z| .inl _=>none)=_;rw[e]
 ·rw[if_neg λc=>h (kY.mp c),if_neg h];unfold cg;rw[List.filterMap_append];rfl
theorem MC(kvs:List (Key×V))(z:Str)(v:V)(h:kvs.length=(cg kvs).length):(putK kvs (Sum.inr z) v).length=(cg (putK kvs (Sum.inr z) v)).length:=by
 rw[yG];unfold putK;by_cases c:z∈cg kvs;·rw[if_pos (kY.mpr c),if_pos c,bD,h]
 ·rw[if_neg λe=>c (kY.mp e),if_neg c,cS,cS,h];rfl
noncomputable def mT(a:List Str):List Str:=cg (lW [] a)
theorem s_:∀(d:List Str)(kvs:List (Key×V)),kvs.length=(cg kvs).length->(cg kvs).Nodup->(lW kvs d).length=(cg (lW kvs d)).length/\(cg (lW kvs d)).Nodup/\∀z,z∈cg (lW kvs d)↔z∈cg kvs\/z∈d
 |[],kvs,h,g=>⟨h,g,λz=>by simp[lW]⟩
 |y::d,kvs,h,g=>by
  have e:lW kvs (y::d)=lW (putK kvs (Sum.inr y) (.bl true)) d:=rfl;rw[e];have g':(cg (putK kvs (Sum.inr y) (.bl true))).Nodup:=by
   rw[yG];split;·exact g
   ·rename_i c;exact List.nodup_append.mpr ⟨g,List.nodup_cons.mpr ⟨zQ14,List.nodup_nil⟩,λa ha b hb e=>c (by rw[List.mem_singleton.mp hb]at e;rw[<-e];exact ha)⟩
  obtain⟨h1,h2,h3⟩:=s_ d _ (MC kvs y _ h) g';refine⟨h1,h2,λz=>?_⟩;rw[h3,yG];split
  ·rename_i c;rw[zQ29];constructor
   ·rintro(h|h);·exact .inl h
    ·exact .inr (.inr h)
   ·rintro(h|rfl|h);·exact .inl h
    ·exact .inl c
    ·exact .inr h
  ·rw[List.mem_append,List.mem_singleton,zQ29,or_assoc]
theorem En(a:List Str)(z:Str):z∈mT a↔z∈a:=by have :=(s_ a [] rfl List.nodup_nil).2.2 z;simpa[cg,mT]using this
theorem J4(kvs:List (Key×V))(a:List Str)(z:Str):lW kvs (a++[z])=putK (lW kvs a) (Sum.inr z) (.bl true):=by unfold lW;rw[List.foldl_append];rfl
theorem Fx {a Ns : List Str} (h : ∀ z, z ∈ a -> z ∈ Ns) : (lW [] a).length <= Ns.length := by obtain ⟨h1, h2, h3⟩ := s_ a [] rfl List.nodup_nil; rw [h1]; exact xJ h2 λ z b => h z ((h3 z).mp b |>.elim (λ c => absurd c zQ14) id)
theorem sQ:∀(n:Nat)(b m:Nat)(d:D),(∀z,z∈bW n (b:Int) d->z<(m:Int))->tP n (m+b) d
 |0,b,m,d,_=>by unfold tP;trivial
 |n+1,b,m,d,h=>by
  unfold tP;split
  ·rename_i x ps he;injection he with he;subst he;unfold bW at h;split
   ·rename_i a;rw[if_pos a]at h;split
    ·rename_i i;by_cases c:(b:Int)<=i;·have :=h (i-b) (by show _∈if(b:Int)<=i then[i-b]else[];rw[if_pos c];exact List.mem_singleton.mpr rfl);push_cast;omega
     ·push_cast;omega
    ·trivial
   ·rename_i a;rw[if_neg a]at h;intro i p e;rw[Nat.add_assoc];refine sQ n (b+ig x i) m p λz f=>h z ?_;have hi:i<(av x ps).length:=(List.getElem?_eq_some_iff.mp e).1;refine List.mem_flatten.mpr ⟨_,List.mem_map.mpr ⟨i,List.mem_range.mpr hi,rfl⟩,?_⟩;rw[e,Option.getD_some,EV];push_cast at f;exact f
  ·trivial
theorem TL{T:List Str}{i:Nat}{z:Str}(h:z∈mW T i):z.length<=2:=by unfold mW at h;obtain⟨j,_,rfl⟩:=List.mem_map.mp (List.mem_filter.mp h).1;exact p_ j
def DP:Sp:=λvs H Q _=>∃(d:D)(v:V)(a:Addr)(N Ns:List Str),vs=[v, .ref a]/\Rep H d v/\Rz d 60/\H a=some (.lst (N.map V.str))/\(∀z,z∈N->z.length<=1000)/\N.length+Ns.length<=200/\aD d<=10000/\(∀z,z∈bz 60 d->z∈Ns)/\(∀z,z∈Ns->z.length<=1000)/\(bW 60 0 d).length<=16000000/\(bz 60 d).length<=16000000/\(∀z,z∈bW 60 0 d->0<=z/\z<63/\z<N.length)/\∀H',aE H H'->Q (.str (pR 60 N ((mW (mT (N++bz 60 d)) 702).take (depth d)) d)) H'
theorem mJ:aG ["thing","names","free","taken","name"] ["thing","names"] (ak qA):=⟨rfl,rfl,rfl,by decide+kernel,rfl,by decide+kernel,by decide+kernel⟩
theorem Mx(D:Df K mg "shown" qA ["thing","names"])(M:Mg mg t)(vI:tJ K t.iD)(GQ:bu P w K mg bx "free_in" (140) ["thing"] (Xl 60))(kc:bu P w K mg bx "names_in" (63) ["thing"] (Mf 60))(ke:bu P w K mg bx "depth_of" (63) ["thing"] (Ed 60))(z3:bu P w K mg bx "names_left" (2) ["count","taken"] Wj)(nF:bu P w K mg bx "text_of" (63) ["thing","around","left"] (MN 60)):bu P w K mg (gO P w) "shown" (141) ["thing","names"] DP:=by
 refine D.LY mJ (λvs H Q E h=>?_) (λbase f bS A outer s H vs Q E hr h=>?_);·obtain⟨d,v,n,N,Ns,rfl,_⟩:=h;rfl
 obtain⟨d,v,n,N,Ns,rfl,r,j,UX,Nu,hal,Uu,Dx,L6,GW,PL,B,q⟩:=h;have hu:=vy hr;refine⟨_,(ag (aI (i:=2) mJ.nd rfl (cj rfl) (aO GQ hr.m rfl aQ (aa (pv 0) af))) (ag (aT (L2.PW.pt (sR (aw nZ (aJ aM rfl M.cH bO (aa (pv 2) af)) aj (az _)) (kX (aw N5 (aX bJ (pv 2) (rJ kf aj) (λ_ _=>rfl)) (aJ aM rfl M.cH bO (aa (pv 1) af)) (az _))))) (ai (dH (G:=(λH'=>E (.ref t.iD) none H')) vI M.g_NoVariable (aa aq af) (λpins σ H s e h' I m q=>eP I m q))) aC) (ag (aI (i:=3) mJ.nd rfl (cj rfl) Ks) (ag (dz N3 rfl (iC (aN CW (bY iI rfl M.CU zZ (aa (pv 1) af)) (aO kc hr.m rfl aQ (aa (pv 0) af)))) (bb (i:=4) mJ.nd rfl (cj rfl)) (ai (M4 hu (pv 3) (pv 4) qV rfl))) (ai (aA (aO nF hr.m rfl aQ (aa (pv 0) (aa (bY iI rfl M.CU zZ (aa (pv 1) af)) (aa (aO z3 hr.m rfl aQ (aa (aO ke hr.m rfl aQ (aa (pv 0) af)) (aa (pv 3) af))) af)))))))))),?_⟩;try dsimp only[iF,cJ]
 refine aac ?_;intro _ _ _ _ _;rename_i D0 v5 v4 v3 v2;refine⟨_,rfl,d,v,rfl,r,j.wf,j.dp,GW,λz a=>⟨(B z a).1,(B z a).2.1⟩,λC R T hn1 s1 hzs hme h1=>?_⟩;have Ys:=s1 _ _ UX;have go:v3 D0 [some v,some (.ref n),some (.ref C),none,none] T:=by
  refineλg hV=>?_;have s2:=ao hV (.dK []);have h2:(upd T g (.dK [])) g=some (.dK []):=ah;generalize upd T g (.dK [])=Y at s2 h2⊢;have Uv:=s1.trans s2;refine⟨_,rfl,n,_,rfl, .inl (aZ.of (s2 _ _ Ys)),λF yL=>?_⟩;have L:=ao yL (.lst (N.map V.str));have h3:(upd Y F (.lst (N.map V.str))) F=some (.lst (N.map V.str)):=ah;generalize upd Y F (.lst (N.map V.str))=H3 at L h3⊢;refine⟨_,rfl,d,v,rfl,r.mono (Uv.trans L),j.wf,j.dp,PL,λp4 Z hn4 W h4=>?_⟩;refine⟨F,p4,_,_,rfl,rfl,W _ _ h3,h4,(by rw[bD,bD,show sizeLine=16777216 by decide];omega),λu hp5=>?_⟩;rw[<-eW];have s5:=ao hp5 (.lst ((N++bz 60 d).map V.str));have h5:(upd Z u (.lst ((N++bz 60 d).map V.str))) u=some (.lst ((N++bz 60 d).map V.str)):=ah;generalize upd Z u (.lst ((N++bz 60 d).map V.str))=H5 at s5 h5⊢;have X4:=L.trans (W.trans s5);have n52:u≠g:=(ay (W _ _ (L _ _ h2)) hp5).symm;have aa3:H g=none:=s1.free hV;have lim:∀i,(lW [] ((N++bz 60 d).take i)).length<=200:=λi=>cw (Fx (Ns:=N++Ns) λz a=>by have a:=tR a;rw[List.mem_append]at a⊢;exact a.imp id (Dx z)) (by rw[cS];exact hal);refine⟨u,rfl,⟨_,aZ.of h5⟩,Bq (xs:=(N++bz 60 d).map V.str) (λi S H'=>∃nv,S=[some v,some (.ref n),some (.ref C),some (.ref g),nv]/\H' g=some (.dK (lW [] ((N++bz 60 d).take i)))/\bg g H5 H') ⟨none,rfl,X4 _ _ h2,λ_ _ _ h=>h⟩ ?_ ?_ ?_⟩;·rintro i S H' hi⟨nv,rfl,p,y⟩;exact aZ.of (y _ _ n52 h5)
  ·rintro i x S H' hx⟨nv,rfl,p,y⟩;rw[gs]at hx;obtain⟨z,a,rfl⟩:=Option.map_eq_some_iff.mp hx;refine⟨_,rfl,_,rfl,g,_,rfl,Kd.k (k:=Sum.inr z) p (Nat.lt_of_le_of_lt (lim i) (by decide)),_,rfl,?_,λc o hc h=>by rw[aP hc];exact y c o hc h⟩;rw[List.take_succ,a,Option.toList_some,J4];exact ah
  ·rintro S H'⟨nv,rfl,p,y⟩;rw[bD,List.take_length]at p;have U:∀(c:Addr)(o:HO),H c=some o->H' c=some o:=λc o h=>y c o (ay h aa3) (X4 _ _ (Uv c o h));have V3:=lim (N++bz 60 d).length;rw[List.take_length]at V3;have d60:=j.dp;refine⟨_,rfl,_,rfl,n,_,rfl, .inl (aZ.of (U _ _ UX)),λJ Ux=>?_⟩;have O:=ao Ux (.lst (N.map V.str));have h6:(upd H' J (.lst (N.map V.str))) J=some (.lst (N.map V.str)):=ah;generalize upd H' J (.lst (N.map V.str))=H6 at O h6⊢;refine⟨_,rfl,d,v,rfl,(r.mono U).mono O,j,λH7 X=>⟨_,rfl,depth d,g,_,rfl,X _ _ (O _ _ p),by omega,λp8 H8 hn8 s8 h8=>?_⟩⟩;have sA:aE H H8:=λc o h=>s8 _ _ (X _ _ (O _ _ (U c o h)));have hl:((mW (mT (N++bz 60 d)) 702).take (depth d)).length=depth d:=by
    have :=vK (mT (N++bz 60 d)) 702;have h9:(mT (N++bz 60 d)).length<=200:=by unfold mT;rw[<-(s_ (N++bz 60 d) [] rfl List.nodup_nil).1];exact V3
    rw[jx];omega
   refine⟨d,v,J,p8,N,(mW (mT (N++bz 60 d)) 702).take (depth d),rfl,r.mono sA,j.wf,j.dp,s8 _ _ (X _ _ h6),h8,?_,by omega,by omega,?_,Uu,λz a=>L6 z (Dx z a),λH9 s9=>q H9 (sA.trans s9)⟩
   ·intro z a;rcases List.mem_append.mp a with a|a;·exact Nu z a
    ·have :=TL (tR a);omega
   ·exact sQ 60 0 N.length d λz a=>(B z a).2.2
 refine⟨_,rfl,C,_,rfl, .inl (aZ.of h1),_,_,rfl,rfl,_,rfl,?_⟩;refine bL (λc=>?_) (λc=>?_)
 ·have c:(0:Int)<(((R.map V.int).length:Nat):Int):=of_decide_eq_true c;rw[bD]at c;obtain⟨z,a⟩:∃z,R[R.length-1]?=some z:=⟨_,zQ03 (by omega)⟩;refine⟨_,rfl,_,rfl,C,_,_, .int z,rfl,rfl,aZ.of h1,?_,_,rfl,n,_,rfl, .inl (aZ.of Ys),_,_,rfl,rfl,_,rfl,?_⟩
  ·rcases List.eq_nil_or_concat R with rfl|⟨l,b,rfl⟩;·simp at c
   ·rw[List.length_concat,Nat.add_sub_cancel]at a;have e:z=b:=by simpa[List.concat_eq_append]using a.symm
    rw[e,List.concat_eq_append,eW];exact Bl _ _
  have :=(B z ((hme z).mp (m_ a))).2.2;refine bL (λc=>?_) (λc=>go);have c:(((N.map V.str).length:Nat):Int)<=z:=of_decide_eq_true c;rw[bD]at c;omega
 ·exact go
end K57
end
section
namespace K57
open PySem L2 L3 KM PyProof.Rows
theorem KS:∀(ys:List Str)(y:Str),wS (y++FR ys).cps.toList=wS y.cps.toList++(ys.map λz=>wS z.cps.toList).flatten
 |[],y=>by rw[CY,show(FR []).cps.toList=[]by decide+kernel,eF,List.map_nil,List.flatten_nil,eF]
 |z::a,y=>by
  have e:(y++FR (z::a)).cps.toList=y.cps.toList++32::(z++FR a).cps.toList:=by rw[CY,FR,CY,CY,CY,show(Str.ofString " ").cps.toList=[32]by decide+kernel,List.append_assoc];rfl
  rw[e,wS,Tn,eW];show wS _++wS _=_;rw[KS a z];rfl
theorem Nz(x:Str)(ys:List Str):wS ("("++Txt.join " " (x::ys)++")").cps.toList=Str.ofString "("::(wS x.cps.toList++(ys.map λz=>wS z.cps.toList).flatten++[Str.ofString ")"]):=by rw[tq,CY,CY,show(Str.ofString "(").cps.toList=[40]by decide+kernel,show(Str.ofString ")").cps.toList=[41]by decide+kernel,List.append_assoc];show wS ([]++40::((x++FR ys).cps.toList++41::[]))=_;rw[wS,HY 40 (.inl rfl),HY 41 (.inr rfl),MM,List.nil_append,cD,eW];show tx [40]::(wS _++[tx [41]])=_;rw[KS];rfl
theorem xS{nm:D->Bool}:∀{cs:List Nat}{ps:List D}{i:Nat}{p:D},mV nm cs ps=true->ps[i]?=some p->∃c,cs[i]?=some c/\iX nm c p=true|[],[],i,p,_,h=>by simp at h|[],_::_,_,_,h,_=>by simp[mV]at h|_::_,[],_,_,h,_=>by simp[mV]at h|c::cs,q::ps,i,p,h,e=>by rw[bM,bF]at h;cases i with|zero=>simp at e;subst e;exact⟨c,rfl,h.1⟩|succ i=>obtain⟨a,h1,h2⟩:=xS (i:=i) h.2 e;exact⟨a,h1,h2⟩
theorem A8:(ba.all λr=>if r.2=[]then decide (r.1∈(["nat","none","zero","var","name"]:List Str))else decide (r.1∈kZ))=true:=by decide+kernel
theorem rh{x:Str}{r:List V}:∀{l:List (Str×List V)},l.lookup x=some r->(x,r)∈l
 |[],h=>by cases h
 |a::l,h=>by
  rw[jk]at h;split at h
  ·rename_i e;have e:x=a.1:=by simpa using e
   injection h with h;rw[e,<-h];exact bI
  ·exact ck _ (rh h)
theorem Yk{scope:List Str}:He scope true nu [Str.ofString "nat"]:=mO (by show dE "nat"=true;decide+kernel) yI (by decide+kernel) ⟨by decide+kernel,by decide+kernel⟩ (by decide+kernel) (by decide+kernel) (by decide+kernel) λnames st e=>Sg
theorem Qx{scope:List Str}:He scope true (.tup [.str "none"]) [Str.ofString "none"]:=mO (by show dE "none"=true;decide+kernel) (iN (w:="none") (s:="") (by decide+kernel) (by decide+kernel) (by rw[show(Str.ofString "").cps.toList=[]by decide+kernel];rfl)) (by decide+kernel) ⟨by decide+kernel,by decide+kernel⟩ (by decide+kernel) (by decide+kernel) (by decide+kernel) λnames st e=>by unfold cZ;rw[if_pos (by decide+kernel)]
theorem NU:((List.range 40).all λn=>nA (Str.ofString (toString ((n:Nat):Int)))&&((Js (Str.ofString (toString ((n:Nat):Int)))==n)&&(decide (Str.ofString (toString ((n:Nat):Int))∉(["nat","none","zero","(",")"]:List Str))&&(decide (1<=(Str.ofString (toString ((n:Nat):Int))).length)&&(decide ((Str.ofString (toString ((n:Nat):Int))).length<=12)&&decide (cP (Str.ofString (toString ((n:Nat):Int))).cps.toList=[(Str.ofString (toString ((n:Nat):Int))).cps.toList]))))))=true:=by decide+kernel
theorem qJ:∀n:Nat,cI (fL n)=true|0=>by decide+kernel|n+1=>by show((PyData.str "next").canLay0&&(cI (fL n)&&true))=true;rw[qJ n];decide+kernel
theorem Vj{scope:List Str}{n:Nat}(hn:n<40):wS (jT n).cps.toList=[jT n]/\He scope false (fL n) [jT n]:=by
 have h:=List.all_eq_true.mp NU n (List.mem_range.mpr hn);simp only[bF,decide_eq_true_eq]at h;obtain⟨h1,h2,h3,h4,h5,h6⟩:=h;have h2:Js (jT n)=n:=eq_of_beq h2;change nA (jT n)=true at h1;change jT n∉_ at h3;change 1<=(jT n).length at h4;change(jT n).length<=12 at h5;change cP (jT n).cps.toList=[(jT n).cps.toList]at h6;refine⟨by rw[wS,h6];rfl,?_⟩;generalize jT n=z at h1 h2 h3 h4 h5 h6⊢;simp only[zQ29,zQ14,or_false,not_or]at h3;refine mO ?_ (rH n) (qJ n) ⟨h4,h5⟩ h6 h3.2.2.2.1 h3.2.2.2.2 λnames st e=>?_;·cases n with|zero=>show dE "zero"=false;decide+kernel|succ n=>show dE "next"=false;decide+kernel
 ·unfold cZ;rw[if_neg (by simp only[zQ29,zQ14,or_false,not_or];exact⟨h3.1,h3.2.1,h3.2.2.1⟩),if_pos h1,h2]
theorem MF{z:Str}(h:isNm z=true):(PyData.str z).canLay0=true:=by obtain⟨_,_,_,hc⟩:=il h;show(z.cps.all λc=>decide (c<0x110000))=true;rw[<-Array.all_toList,List.all_eq_true];intro c h;have :=vP (hc c h);exact decide_eq_true (by omega)
theorem MQ(z:Str){b a s:List Str}(h:b++a=s):uu z b a=uu z s []:=by unfold uu;rw[h,eF]
theorem Vu{scope:List Str}{z:Str}{d:D}(b:isNm z=true)(e:uu z scope []=d)(wf:dC aS false d=true):wS z.cps.toList=[z]/\He scope false d [z]:=by
 subst e;obtain⟨n,c,_,_⟩:=il b;have h1:1<=z.length:=by rw[str_len];cases e:z.cps.toList with|nil=>exact absurd e n|cons a l=>simp
 obtain⟨_,f,g⟩:=PM (names:=[]) (st:=[]) b;refine⟨by rw[wS,mn b];rfl,mO ?_ wf ?_ ⟨h1,c⟩ (mn b) f g λnames st e=>?_⟩
 ·unfold uu;split;·show dE "var"=false;decide+kernel
  ·show dE "name"=false;decide+kernel
 ·unfold uu;split;·show(cI (.str "var")&&(cI (.int _)&&true))=true;rw[show cI (.str "var")=true by decide+kernel];rfl
  ·show(cI (.str "name")&&(cI (.str z)&&true))=true;rw[show cI (.str "name")=true by decide+kernel,show cI (.str z)=true from MF b];rfl
 ·rw[(PM (names:=names) (st:=st) b).1,Sh,MQ z e]
theorem Kp:∀(n:Nat)(d:D)(m:Nat),Wf d->kO n d=some m->d=fL m
 |0,d,m,_,h=>by unfold kO at h;cases h
 |n+1,d,m,⟨k,wf⟩,h=>by
  obtain⟨x,ps,rfl⟩:=eN wf;by_cases c:x="next"
  ·subst c;obtain⟨p,rfl⟩:=sN wf;rw[kO,if_pos rfl]at h;cases e:kO n p with
    |none=>rw[e]at h;cases h
    |some l=>
     rw[e]at h;have g:av "next" [p]=[p]:=by unfold av;rw[if_neg (by decide+kernel)]
     obtain⟨o,r⟩:=dy wf (i:=0) (p:=p) (by rw[g];rfl);have :=Kp n p l o e;simp at h;subst h;rw[this];rfl
  ·have f:kO (n+1) (.tup (.str x::ps))=if x="zero"then some 0 else none:=by
    conv=>lhs;unfold kO
    exact if_neg c
   rw[f]at h;split at h
   ·rename_i j;cases h;subst j;obtain⟨sh,a,_,q,_,b,_⟩:=bw wf;have :cO "zero"= .str "":=by decide+kernel
    rw[this]at a;cases a;rw[show(Str.ofString "").cps.toList=[]by decide+kernel]at b;rw[List.length_eq_zero_iff.mp b.symm];rfl
   ·cases h
theorem RI{A:List Str}{i:Nat}{z:Str}(h:A[i]?=some z)(nd:A.Nodup):A.idxOf z=i:=by obtain⟨hi,e⟩:=List.getElem?_eq_some_iff.mp h;rw[<-e];exact List.Nodup.idxOf_getElem nd i hi
theorem Xg{A L:List Str}{x l:Str}{a:List Str}{i:Nat}(h:fQ x BO=true)(b:L=l::a):Zp A x (some l) i=L.take (ig x i)++A:=by
 subst b;show(if dw x= .int (i:Nat)then l::A else A)=_;unfold ig;by_cases c:dw x= .int (i:Nat);·rw[if_pos c,if_pos (decide_eq_true c.symm)];rfl
 ·rw[if_neg c,if_neg (λe=>c (of_decide_eq_true e).symm)];rfl
theorem XD{x:Str}{i:Nat}(h:fQ x BO=false):ig x i=0:=by unfold ig dw;unfold fQ at h;cases e:KTD.datumAt x BO with|some v=>rw[e]at h;cases h|none=>rw[if_neg (by rw[Option.getD_none];simp)]
structure Ok(A L:List Str):Prop where
 nd:(A++L).Nodup
 nm:∀z,z∈A++L->isNm z=true
theorem Ok.next{A L:List Str}(h:Ok A L)(b:Nat):Ok (L.take b++A) (L.drop b):=by
 have p:(L.take b++A++L.drop b).Perm (A++L):=by have a:(L.take b++A++L.drop b).Perm (A++L.take b++L.drop b):=List.Perm.append_right _ List.perm_append_comm;rw[List.append_assoc A,List.take_append_drop]at a;exact a
 exact⟨p.nodup_iff.mpr h.nd,λz c=>h.nm z (p.mem_iff.mp c)⟩
theorem D9:∀(n:Nat)(A L:List Str)(d:D)(k:Bool),dC aS k d=true->depth d<n->depth d<=40->depth d<=L.length->tP n A.length d->Ok A L->(∀z,z∈bz n d->isNm z=true/\z∉A++L)->He A k d (wS (pR n A L d).cps.toList)
 |0,A,L,d,k,_,h,_,_,_,_,_=>absurd h (Nat.not_lt_zero _)
 |n+1,A,L,d,k,wf,hd,WD,hdl,hcl,ok,N=>by
  obtain⟨x,ps,rfl⟩:=eN wf;obtain⟨sh,f,q,B,e4,b,e6,e7,r,U,C⟩:=bw wf;have g:=List.all_eq_true.mp A8 _ (rh U);by_cases hv:x="var"
  ·subst hv;rw[eJ]at f;cases f;rw[vh]at B b;obtain⟨o,rfl⟩:∃o,ps=[o]:=by cases ps with|nil=>simp at b|cons o rest=>cases rest with|nil=>exact⟨o,rfl⟩|cons _ _=>simp at b
   rw[bM,bF]at B;have hn:gW o=true:=by simpa[iX]using B.1
   obtain⟨i,rfl⟩:∃i,o= .int i:=by cases o<;>first|exact⟨_,rfl⟩|simp[gW]at hn
   have h0:0<=i:=by simp[gW]at hn;omega
   have hi:i<A.length:=by rw[tP,if_pos rfl]at hcl;exact hcl
   have e:pR (n+1) A L (.tup [.str "var", .int i])=(A[i.toNat]?).getD "":=by rw[pR,if_pos rfl]
   obtain⟨z,v⟩:∃z,A[i.toNat]?=some z:=⟨_,zQ03 (by omega)⟩;rw[v,Option.getD_some]at e;have a:k=false:=by rw[<-q];decide+kernel
   subst a;have hm:=m_ v;obtain⟨q1,q2⟩:=Vu (scope:=A) (d:= .tup [.str "var", .int i]) (ok.nm z (List.mem_append.mpr (.inl hm))) (by unfold uu;rw[eF,if_pos hm,RI v (List.nodup_append.mp ok.nd).1,show((i.toNat:Nat):Int)=i by omega]) wf;rw[e,q1];exact q2
  by_cases hn:x="name"
  ·subst hn;obtain⟨z,rfl⟩:=g8 wf;have e:pR (n+1) A L (.tup [.str "name", .str z])=z:=by rw[pR,if_neg hv,if_pos rfl]
   obtain⟨W,X⟩:=N z (by unfold bz;rw[if_pos rfl];exact List.mem_singleton.mpr rfl);have a:k=false:=by rw[<-q];decide+kernel
   subst a;obtain⟨q1,q2⟩:=Vu (scope:=A) (d:= .tup [.str "name", .str z]) W (by unfold uu;rw[eF,if_neg λc=>X (List.mem_append.mpr (.inl c))]) wf;rw[e,q1];exact q2
  have e:pR (n+1) A L (.tup (.str x::ps))=match kO (n+1) (.tup (.str x::ps))with|some m=>jT m|none=>if av x ps=[]then x else"("++Txt.join " " (x::((if fQ x BO then L.take 1 else[])++kN n A L x (av x ps) (av x ps).length))++")":=by
   conv=>lhs;unfold pR
   rw[if_neg hv,if_neg hn];rfl
  cases u:kO (n+1) (.tup (.str x::ps))with
   |some m=>
    rw[u]at e;have hm:=FQ _ _ _ ⟨k,wf⟩ u;have hc:=Kp _ _ _ ⟨k,wf⟩ u;obtain⟨q1,q2⟩:=Vj (scope:=A) (n:=m) (by omega);rw[e];show He A k _ (wS (jT m).cps.toList);rw[q1,hc];have :k=false:=by have :=rH m;rw[hc]at wf;obtain⟨y,qs,hy⟩:=eN this;rw[hy]at this wf;obtain⟨_,_,a1,_⟩:=bw this;obtain⟨_,_,a2,_⟩:=bw wf;rw[<-a1,<-a2]
    rw[this];exact q2
   |none=>
    rw[u]at e;have e:pR (n+1) A L (.tup (.str x::ps))=if av x ps=[]then x else"("++Txt.join " " (x::((if fQ x BO then L.take 1 else[])++kN n A L x (av x ps) (av x ps).length))++")":=e;by_cases a:av x ps=[]
    ·rw[if_pos a]at e;rw[e];rw[a]at C;have hr:r=[]:=List.length_eq_zero_iff.mp C;rw[if_pos hr]at g;have g:x∈(["nat","none","zero","var","name"]:List Str):=of_decide_eq_true g;simp only[zQ29,zQ14,or_false]at g;rcases g with rfl|rfl|rfl|rfl|rfl
     ·have :cO "nat"= .str "":=by decide+kernel
      rw[this]at f;cases f;rw[show(Str.ofString "").cps.toList=[]by decide+kernel]at b;rw[List.length_eq_zero_iff.mp b.symm,show k=true by rw[<-q];decide+kernel,show wS (Str.ofString "nat").cps.toList=[Str.ofString "nat"]by decide+kernel];exact Yk
     ·have :cO "none"= .str "":=by decide+kernel
      rw[this]at f;cases f;rw[show(Str.ofString "").cps.toList=[]by decide+kernel]at b;rw[List.length_eq_zero_iff.mp b.symm,show k=true by rw[<-q];decide+kernel,show wS (Str.ofString "none").cps.toList=[Str.ofString "none"]by decide+kernel];exact Qx
     ·exact nomatch(show some 0=none by rw[<-u];unfold kO;rw[if_neg (by decide+kernel),if_pos rfl])
     ·exact absurd rfl hv
     ·exact absurd rfl hn
    ·rw[if_neg a]at e;have J:av x ps=ps:=by
      unfold av at a⊢;split;·rename_i c;rw[if_pos c]at a;exact absurd rfl a
      ·rfl
     rw[J]at e a C;have O:x∈kZ:=by rw[if_neg λz=>a (List.length_eq_zero_iff.mp (by rw[<-C,show r=[]from z];rfl))]at g;exact of_decide_eq_true g
     have M:=List.all_eq_true.mp sf x O;simp only[bF,decide_eq_true_eq]at M;obtain⟨f1,f2,K,F,V,f6,s⟩:=M;rw[f]at s;simp only[bF,decide_eq_true_eq]at s;have Oq:dE x=dY x:=by simpa using V
     have Z:(bN x).length=ps.length:=by rw[s.1,bD,b]
     rw[e,Nz,show k=dY x by rw[<-q,Oq]];have Q:wS x.cps.toList=[x]:=by rw[wS,F];rfl
     have go:∀(bn:Option Str)(hw:List Str),Gq A x bn [] hw->(∀i,Zp A x bn i=L.take (ig x i)++A)->He A (dY x) (.tup (.str x::ps)) (hw++((kN n A L x ps ps.length).map λz=>wS z.cps.toList).flatten++HM [")"]):=by
      intro bn hw T VB;have step:∀j,j<=ps.length->Gq A x bn (ps.take j) (hw++((kN n A L x ps j).map λz=>wS z.cps.toList).flatten):=by
       intro j;induction j with
        |zero=>intro _;simpa[kN]using T
        |succ j ih=>
         intro hj;have P:=ih (by omega);obtain⟨p,E⟩:∃p,ps[j]?=some p:=⟨_,zQ03 (by omega)⟩;obtain⟨c,hc,t⟩:=xS B E;have R:(ps.take j).length=j:=by rw[jx];omega
         have Y:(bN x)[j]?=some (if c=107 then Str.ofString "kind"else"term"):=by rw[s.1,gs,hc];rfl
         have I:(av x ps)[j]?=some p:=by rw[J];exact E
         obtain⟨w1,w2⟩:=dy wf I;have hwp:dC aS (decide ((if c=107 then Str.ofString "kind"else"term")=Str.ofString "kind")) p=true:=by
          unfold iX at t;have :=List.all_eq_true.mp s.2 c (m_ hc);rcases(of_decide_eq_true this:c=107\/c=116)with rfl|rfl;·rw[if_pos rfl]at t⊢;exact t
          ·rw[if_neg (by decide),if_pos rfl]at t;rw[if_neg (by decide)];exact t
         have b1:=CH x j;have G:=D9 n (L.take (ig x j)++A) (L.drop (ig x j)) p _ hwp (by omega) (by omega) (by rw[jP];omega) (by have :=Er hv hcl I;rw[cS,jx,Nat.min_eq_left (by omega),Nat.add_comm];exact this) (ok.next _) λz v=>by
          obtain⟨z1,z2⟩:=N z (qj hn I v);refine⟨z1,λc=>z2 ?_⟩;rw[List.mem_append,List.mem_append]at c;rw[List.mem_append];rcases c with(c|c)|c;·exact .inr (tR c)
          ·exact .inl c
          ·exact .inr (List.mem_of_mem_drop c)
         have S:=P.next (by rw[R];exact Y) rfl (by rw[R,VB];exact G);rw[F0 E,eW,List.flatten_append,<-List.append_assoc,List.take_succ,E];simpa using S
      have PA:=step ps.length (zQ04 _);rw[List.take_length]at PA;exact PA.close O Z.symm
     by_cases hb:fQ x BO=true
     ·obtain⟨l,w,H⟩:∃l w,L=l::w:=by cases L with|nil=>have :=(cc wf).2;simp at hdl;omega|cons z w=>exact⟨z,w,rfl⟩
      have hl:isNm l=true:=ok.nm l (by rw[H];simp);have hlw:wS l.cps.toList=[l]:=by rw[wS,mn hl];rfl
      have :=go (some l) _ (Gq.XJ f1 hb ⟨K,f2⟩ F hl) λi=>Xg hb H;rw[if_pos hb,Q];have h1:L.take 1=[l]:=by rw[H];rfl
      rw[h1,eW,List.flatten_append];simpa[HM,hlw]using this
     ·have hb:fQ x BO=false:=by simpa using hb
      have :=go none _ (Gq.UD f1 hb ⟨K,f2⟩ F) λi=>by rw[XD hb];rfl
      rw[hb,Q];simpa[HM]using this
end K57
end
section
namespace K57
open PySem L2 L3 KM PyProof.Rows
seal L2.PE L2.PS L2.kM L2.PT L2.PW L2.PA L2.PG L2.BA L2.PI L2.PC L2.PO L2.G0 L2.PK L3.Bc L3.J9 L3.LC L3.lH L3.Ui
variable{P:Program}{w:World}{K:PySem.W.Frag}{mg:Str->Option Value}{base:Heap}{t:Aq}
theorem sd(x y:Str):decide (V.str x=V.str y)=decide (x=y):=by
 by_cases h:x=y;·rw[h];simp
 ·rw[decide_eq_false h];exact decide_eq_false λq=>h (by injection q)
noncomputable def iV(x:Str):Str:=if x="all"\/x="some"then"kk"else if x="fun"\/x="like"\/x="never"then"kt"else if x="same"\/x="carry"\/x="pair"then"ktt"else if x="app"then"tt"else if x="rec"then"kttt"else"t"
def IM:Sp:=λvs H Q _=>∃x:Str,vs=[.str x]/\Q (.str (iV x)) H
theorem vQ:aG ["_law_word"] ["_law_word"] (ak gN):=⟨rfl,rfl,rfl,by decide+kernel,rfl,by decide+kernel,by decide+kernel⟩
theorem Cp(D:Df K mg "_law_shape" gN ["_law_word"])(M:Mg mg t):bu P w K mg bx "_law_shape" (1) ["_law_word"] IM:=by
 refine D.ok vQ (λvs H Q E h=>?_) (λbase f bS A outer s H vs Q E hr h=>?_);·obtain⟨x,rfl,_⟩:=h;rfl
 obtain⟨x,rfl,q⟩:=h;refine⟨_,(ag (aT (L2.PW.pt (fE (aw aY (pv 0) aq (az _)) (fB (aw aY (pv 0) aq (az _))))) (ai (aA aq)) aC) (ag (aT (L2.PW.pt (fE (aw aY (pv 0) aq (az _)) (fE (aw aY (pv 0) aq (az _)) (fB (aw aY (pv 0) aq (az _)))))) (ai (aA aq)) aC) (ag (aT (L2.PW.pt (fE (aw aY (pv 0) aq (az _)) (fE (aw aY (pv 0) aq (az _)) (fB (aw aY (pv 0) aq (az _)))))) (ai (aA aq)) aC) (ag (aT (aw aY (pv 0) aq (az _)) (ai (aA aq)) aC) (ag (aT (aw aY (pv 0) aq (az _)) (ai (aA aq)) aC) (ai (aA aq))))))),?_⟩;try dsimp only[iF,v]
 refine Vn ?_;intro _ _ _ _ _ _;refine⟨_,rfl,rfl,_,rfl,?_⟩;rw[sd];by_cases c:x="all"
 ·have e:iV x="kk":=by unfold iV;rw[if_pos (.inl c)]
  rw[e]at q;rw[decide_eq_true c];exact bj (bj q)
 rw[decide_eq_false c];refine bR ⟨_,rfl,rfl,_,rfl,?_⟩;rw[sd];by_cases d:x="some"
 ·have e:iV x="kk":=by unfold iV;rw[if_pos (.inr d)]
  rw[e]at q;rw[decide_eq_true d];exact bj q
 rw[decide_eq_false d];have a:¬(x="all"\/x="some"):=λh=>h.elim c d;refine bR ⟨_,rfl,rfl,_,rfl,?_⟩;rw[sd];by_cases g:x="fun"
 ·have e:iV x="kt":=by unfold iV;rw[if_neg a,if_pos (.inl g)]
  rw[e]at q;rw[decide_eq_true g];exact bj (bj q)
 rw[decide_eq_false g];refine bR ⟨_,rfl,rfl,_,rfl,?_⟩;rw[sd];by_cases i:x="like"
 ·have e:iV x="kt":=by unfold iV;rw[if_neg a,if_pos (.inr (.inl i))]
  rw[e]at q;rw[decide_eq_true i];exact bj (bj q)
 rw[decide_eq_false i];refine bR ⟨_,rfl,rfl,_,rfl,?_⟩;rw[sd];by_cases j:x="never"
 ·have e:iV x="kt":=by unfold iV;rw[if_neg a,if_pos (.inr (.inr j))]
  rw[e]at q;rw[decide_eq_true j];exact bj q
 rw[decide_eq_false j];have b:¬(x="fun"\/x="like"\/x="never"):=λh=>h.elim g λh=>h.elim i j;refine bR ⟨_,rfl,rfl,_,rfl,?_⟩;rw[sd];by_cases k:x="same"
 ·have e:iV x="ktt":=by unfold iV;rw[if_neg a,if_neg b,if_pos (.inl k)]
  rw[e]at q;rw[decide_eq_true k];exact bj (bj q)
 rw[decide_eq_false k];refine bR ⟨_,rfl,rfl,_,rfl,?_⟩;rw[sd];by_cases l:x="carry"
 ·have e:iV x="ktt":=by unfold iV;rw[if_neg a,if_neg b,if_pos (.inr (.inl l))]
  rw[e]at q;rw[decide_eq_true l];exact bj (bj q)
 rw[decide_eq_false l];refine bR ⟨_,rfl,rfl,_,rfl,?_⟩;rw[sd];by_cases m:x="pair"
 ·have e:iV x="ktt":=by unfold iV;rw[if_neg a,if_neg b,if_pos (.inr (.inr m))]
  rw[e]at q;rw[decide_eq_true m];exact bj q
 rw[decide_eq_false m];have p:¬(x="same"\/x="carry"\/x="pair"):=λh=>h.elim k λh=>h.elim l m;refine bR ⟨_,rfl,rfl,_,rfl,?_⟩;rw[sd];by_cases n:x="app"
 ·have e:iV x="tt":=by unfold iV;rw[if_neg a,if_neg b,if_neg p,if_pos (n)]
  rw[e]at q;rw[decide_eq_true n];exact bj q
 rw[decide_eq_false n];have r:=n;refine bR ⟨_,rfl,rfl,_,rfl,?_⟩;rw[sd];by_cases o:x="rec"
 ·have e:iV x="kttt":=by unfold iV;rw[if_neg a,if_neg b,if_neg p,if_neg r,if_pos (o)]
  rw[e]at q;rw[decide_eq_true o];exact bj q
 rw[decide_eq_false o];have u:=o;have e:iV x="t":=by unfold iV;rw[if_neg a,if_neg b,if_neg p,if_neg r,if_neg u]
 rw[e]at q;exact bR q
noncomputable def pN(x:Str):Int:=if x="all"\/x="some"\/x="fun"then 1 else if x="rec"\/x="carry"then 0 else-1
def Bg:Sp:=λvs H Q _=>∃x:Str,vs=[.str x]/\Q (.int (pN x)) H
theorem zF:aG ["_law_word"] ["_law_word"] (ak gy):=⟨rfl,rfl,rfl,by decide+kernel,rfl,by decide+kernel,by decide+kernel⟩
theorem BP(D:Df K mg "_law_bound" gy ["_law_word"])(M:Mg mg t):bu P w K mg bx "_law_bound" (1) ["_law_word"] Bg:=by
 refine D.ok zF (λvs H Q E h=>?_) (λbase f bS A outer s H vs Q E hr h=>?_);·obtain⟨x,rfl,_⟩:=h;rfl
 obtain⟨x,rfl,q⟩:=h;refine⟨_,(ag (aT (L2.PW.pt (fE (aw aY (pv 0) aq (az _)) (fE (aw aY (pv 0) aq (az _)) (fB (aw aY (pv 0) aq (az _)))))) (ai (aA aj)) aC) (ag (aT (L2.PW.pt (fE (aw aY (pv 0) aq (az _)) (fB (aw aY (pv 0) aq (az _))))) (ai (aA aj)) aC) (ai (aA (rJ kf aj))))),?_⟩;try dsimp only[iF,k]
 refine CK ?_;intro _ _ _;refine⟨_,rfl,rfl,_,rfl,?_⟩;rw[sd];by_cases a:x="all"
 ·have e:pN x=1:=by unfold pN;rw[if_pos (.inl a)]
  rw[e]at q;rw[decide_eq_true a];exact bj (bj q)
 rw[decide_eq_false a];refine bR ⟨_,rfl,rfl,_,rfl,?_⟩;rw[sd];by_cases b:x="some"
 ·have e:pN x=1:=by unfold pN;rw[if_pos (.inr (.inl b))]
  rw[e]at q;rw[decide_eq_true b];exact bj (bj q)
 rw[decide_eq_false b];refine bR ⟨_,rfl,rfl,_,rfl,?_⟩;rw[sd];by_cases c:x="fun"
 ·have e:pN x=1:=by unfold pN;rw[if_pos (.inr (.inr c))]
  rw[e]at q;rw[decide_eq_true c];exact bj q
 rw[decide_eq_false c];have i:¬(x="all"\/x="some"\/x="fun"):=λh=>h.elim a λh=>h.elim b c;refine bR ⟨_,rfl,rfl,_,rfl,?_⟩;rw[sd];by_cases d:x="rec"
 ·have e:pN x=0:=by unfold pN;rw[if_neg i,if_pos (.inl d)]
  rw[e]at q;rw[decide_eq_true d];exact bj (bj q)
 rw[decide_eq_false d];refine bR ⟨_,rfl,rfl,_,rfl,?_⟩;rw[sd];by_cases g:x="carry"
 ·have e:pN x=0:=by unfold pN;rw[if_neg i,if_pos (.inr g)]
  rw[e]at q;rw[decide_eq_true g];exact bj q
 rw[decide_eq_false g];have j:¬(x="rec"\/x="carry"):=λh=>h.elim d g;have e:pN x=-1:=by unfold pN;rw[if_neg i,if_neg j]
 rw[e]at q;exact bR ⟨_,rfl,q⟩
seal L3.PH L3.PB
theorem JH{k:Bool}{d:D}(h:dC aS k d=true):isTup d=true:=by obtain⟨x,ps,rfl⟩:=eN h;rfl
theorem ja(d:D):∀l:List D,aF (l++[d])=max (aF l) (depth d)|[]=>by simp[aF]|a::l=>by show max (depth a) (aF (l++[d]))=max (max (depth a) (aF l)) (depth d);rw[ja d l,Nat.max_assoc]
theorem jn(d:D):∀l:List D,aH (l++[d])=aH l+aD d|[]=>by simp[aH]|a::l=>by show aD a+aH (l++[d])=aD a+aH l+aD d;rw[jn d l,Nat.add_assoc]
theorem qw{ps:List D}{i:Nat}{p:D}(h:ps[i]?=some p):aH (ps.take (i+1))=aH (ps.take i)+aD p/\aF (ps.take (i+1))=max (aF (ps.take i)) (depth p):=by rw[List.take_succ,h,Option.toList_some,jn,ja];exact⟨rfl,rfl⟩
theorem VN{p:D}(h:isTup p=false):aD p=0/\depth p=0:=by cases p with|tup ds=>cases h|_=>exact⟨by simp[aD],by simp[depth]⟩
theorem Xs{ps:List D}(i:Nat):aH (ps.take i)<=aH ps:=by induction ps generalizing i with|nil=>simp|cons a l b=>cases i with|zero=>simp[aH]|succ i=>have :=b i;rw[List.take_succ_cons,aH,aH];omega
theorem ky{k:Bool}{x:Str}{ps:List D}{i:Nat}{p:D}(wf:dC aS k (.tup (.str x::ps))=true)(h:ps[i]?=some p):(isTup p=true/\av x ps=ps)\/(isTup p=false/\av x ps=[]):=by
 obtain⟨sh,l,m,b,n,o,d,f,_⟩:=bw wf;obtain⟨c,hc,hd⟩:=xS b h;have a:=d c (m_ hc);unfold av;unfold iX at hd;cases hl:gG x with
  |false=>
   rw[hl]at a;rw[if_neg (by decide)];refine .inl ⟨?_,rfl⟩;rcases f hl c (m_ hc)with rfl|rfl;·rw[if_pos rfl]at hd;exact JH hd
   ·rw[if_neg (by decide),if_pos rfl]at hd;exact JH hd
  |true=>
   rw[hl]at a;rw[if_pos rfl];refine .inr ⟨?_,rfl⟩;have g:c≠107:=λe=>by rw[e]at a;revert a;decide+kernel
   have j:c≠116:=λe=>by rw[e]at a;revert a;decide+kernel
   rw[if_neg g,if_neg j]at hd;cases p with|tup ds=>split at hd<;>cases hd|_=>rfl
def NN(n:Nat):Sp:=λvs H Q _=>∃(d:D)(v:V),vs=[v]/\Rep H d v/\Wf d/\depth d<n/\aD d<=100000/\∀H',aE H H'->Q (.int (aD d:Nat)) H'
theorem fI:aG ["_law_thing_here","_law_many","_law_part"] ["_law_thing_here"] (ak eZ):=⟨rfl,rfl,rfl,by decide+kernel,rfl,by decide+kernel,by decide+kernel⟩
theorem yB{n:Nat}(D:Df K mg "_law_knots" eZ ["_law_thing_here"])(M:Mg mg t)(J:bu P w K mg bx "_law_knots" (n+1) ["_law_thing_here"] (NN n)):bu P w K mg bx "_law_knots" (n+2) ["_law_thing_here"] (NN (n+1)):=by
 refine D.ok fI (λvs H Q E h=>?_) (λbase f bS A outer s H vs Q E hr h=>?_);·obtain⟨d,v,rfl,_⟩:=h;rfl
 obtain⟨d,v,rfl,r,Y,hd,Uu,q⟩:=h;refine⟨_,(ag (aI (i:=1) fI.nd rfl (cj rfl) aj) (ag (dz PassesOwn.never rfl (zr (eX qq (pv 0) (eT aj) fK)) (bb (i:=2) fI.nd rfl (cj rfl)) (ai (aT (dB (aJ dU rfl M.dr cM (aa (pv 2) (aa (uV M.iB gk rfl) af)))) (ai (aI (i:=1) fI.nd rfl (cj rfl) (aN dN (pv 1) (aO J hr.m rfl aQ (aa (pv 2) af))))) aC))) (ai (aA (pv 1))))),?_⟩;try dsimp only[iF,cJ]
 refine CK ?_;intro _ _ _;obtain⟨x,ps,k,rfl,wf,vf⟩:=jy Y;obtain⟨a,xR,rfl,ha,v0,us,rfl,⟨rfl,hx⟩,G⟩:=id r;have T:=G.length;have y:iA (V.str x::us) (some 1) none=us:=gY (V.str x::us) 1;refine⟨_,rfl,_,rfl,a,_,rfl,cu.of ha,λg O=>?_,λz=>absurd (congrArg List.length (y.symm.trans z)) (by simp)⟩;rw[y];have s1:=ao O (.tup us);have h1:(upd H g (.tup us)) g=some (.tup us):=ah;generalize upd H g (.tup us)=o at s1 h1⊢;have N:aD (.tup (.str x::ps))=1+aH ps:=by simp[aD,aH]
 refine⟨g,rfl,⟨_,cu.of h1⟩,eA us.length (λj m H'=>∃kv,m=[some (.ref a),some (.int ((1+aH (ps.take j):Nat):Int)),kv]/\aE o H') ⟨none,by simp[aH];rfl,aE.refl o⟩ ?_ ?_⟩
 ·rintro i m H' hi⟨kv,rfl,b⟩;have B:=b _ _ h1;obtain⟨p,c⟩:∃p,ps[i]?=some p:=⟨_,zQ03 (by omega)⟩;obtain⟨u,C,U⟩:=G.get c;have I:=(U.mono s1).mono b;refine⟨⟨us,u,cu.of B,C⟩,?_⟩;rintro x' Z⟨rfl,R⟩;have F:=R us (cu.of B);rw[C]at F;cases F;refine⟨_,rfl,_,_,_,_,rfl,I.ty,k_ _ p,_,rfl,?_⟩;obtain⟨S,k2⟩:=qw c;rw[S];rcases ky wf c with⟨e,l⟩|⟨e,l⟩;·rw[e];obtain⟨X,w2⟩:=dy wf (i:=i) (p:=p) (by rw[l];exact c);have k3:=Kb wf (i:=i) (d:=p) (by rw[l];exact c);refine bj ⟨_,rfl,_,rfl,p,u,rfl,I,X,by omega,by omega,λH4 W=>⟨_,_,rfl,rfl,some u,?_,b.trans W⟩⟩;show[some (V.ref a),some (V.int (((1+aH (ps.take i):Nat):Int)+((aD p:Nat):Int))),_]=_;rw[show((1+aH (ps.take i):Nat):Int)+((aD p:Nat):Int)=((1+(aH (ps.take i)+aD p):Nat):Int)by omega]
  ·rw[e];refine bR ⟨some u,?_,b⟩;rw[(VN e).1];rfl
 ·rintro m H'⟨kv,rfl,b⟩;refine⟨⟨us,cu.of (b _ _ h1),zQ04 _⟩,?_⟩;have L:1+aH (ps.take us.length)=aD (.tup (.str x::ps)):=by rw[T,List.take_length,N]
  rw[L];exact⟨_,rfl,q H' (s1.trans b)⟩
theorem oP(D:Df K mg "_law_knots" eZ ["_law_thing_here"])(M:Mg mg t):∀n:Nat,bu P w K mg bx "_law_knots" (n+1) ["_law_thing_here"] (NN n)|0=>bu.never D λvs H Q E⟨d,v,_,_,_,h,_⟩=>absurd h (Nat.not_lt_zero _)|n+1=>yB D M (oP D M n)
def Mc(n:Nat):Sp:=λvs H Q _=>∃(d:D)(v:V),vs=[v]/\Rep H d v/\Wf d/\depth d<n/\∀H',aE H H'->Q (.int (depth d:Nat)) H'
theorem gC:aG ["_law_thing_here","_law_deep_here","_law_part"] ["_law_thing_here"] (ak gj):=⟨rfl,rfl,rfl,by decide+kernel,rfl,by decide+kernel,by decide+kernel⟩
theorem Bt{n:Nat}(D:Df K mg "_law_deep" gj ["_law_thing_here"])(M:Mg mg t)(J:bu P w K mg bx "_law_deep" (n+131) ["_law_thing_here"] (Mc n)):bu P w K mg bx "_law_deep" (n+132) ["_law_thing_here"] (Mc (n+1)):=by
 refine D.ok gC (λvs H Q E h=>?_) (λbase f bS A outer s H vs Q E hr h=>?_);·obtain⟨d,v,rfl,_⟩:=h;rfl
 obtain⟨d,v,rfl,r,X,hd,q⟩:=h;have hh:=hr.hd (by omega);refine⟨_,(ag (aI (i:=1) gC.nd rfl (cj rfl) aj) (ag (dz PassesOwn.never rfl (zr (eX qq (pv 0) (eT aj) fK)) (bb (i:=2) gC.nd rfl (cj rfl)) (ai (aT (dB (aJ dU rfl M.dr cM (aa (pv 2) (aa (uV M.iB gk rfl) af)))) (ai (aI (i:=1) gC.nd rfl (cj rfl) (aJ (uX hh) rfl M.FU CC (aa (pv 1) (aa (aO J hr.m rfl aQ (aa (pv 2) af)) af))))) aC))) (ai (aA (aN dN (pv 1) aj))))),?_⟩;try dsimp only[iF,cJ]
 refine CK ?_;intro _ _ _;obtain⟨x,ps,k,rfl,wf,vf⟩:=jy X;obtain⟨a,xR,rfl,ha,v0,us,rfl,⟨rfl,hx⟩,G⟩:=id r;have S:=G.length;have y:iA (V.str x::us) (some 1) none=us:=gY (V.str x::us) 1;refine⟨_,rfl,_,rfl,a,_,rfl,cu.of ha,λg N=>?_,λz=>absurd (congrArg List.length (y.symm.trans z)) (by simp)⟩;rw[y];have s1:=ao N (.tup us);have h1:(upd H g (.tup us)) g=some (.tup us):=ah;generalize upd H g (.tup us)=m at s1 h1⊢;have L:depth (.tup (.str x::ps))=1+aF ps:=by simp[depth,aF]
 refine⟨g,rfl,⟨_,cu.of h1⟩,eA us.length (λj l H'=>∃kv,l=[some (.ref a),some (.int ((aF (ps.take j):Nat):Int)),kv]/\aE m H') ⟨none,by simp[aF];rfl,aE.refl m⟩ ?_ ?_⟩
 ·rintro i l H' hi⟨kv,rfl,b⟩;have B:=b _ _ h1;obtain⟨p,e⟩:∃p,ps[i]?=some p:=⟨_,zQ03 (by omega)⟩;obtain⟨u,C,T⟩:=G.get e;have I:=(T.mono s1).mono b;refine⟨⟨us,u,cu.of B,C⟩,?_⟩;rintro x' Y⟨rfl,O⟩;have F:=O us (cu.of B);rw[C]at F;cases F;refine⟨_,rfl,_,_,_,_,rfl,I.ty,k_ _ p,_,rfl,?_⟩;obtain⟨k1,R⟩:=qw e;rw[R];rcases ky wf e with⟨c,o⟩|⟨c,o⟩;·rw[c];obtain⟨W,w2⟩:=dy wf (i:=i) (p:=p) (by rw[o];exact e);refine bj ⟨_,rfl,_,rfl,p,u,rfl,I,W,by omega,λZ U=>⟨_,_,rfl,some u,?_,b.trans U⟩⟩;show[some (V.ref a),some (V.int (if((depth p:Nat):Int)>((aF (ps.take i):Nat):Int)then((depth p:Nat):Int)else((aF (ps.take i):Nat):Int))),_]=_;rw[show(if((depth p:Nat):Int)>((aF (ps.take i):Nat):Int)then((depth p:Nat):Int)else((aF (ps.take i):Nat):Int))=((max (aF (ps.take i)) (depth p):Nat):Int)by split<;>omega]
  ·rw[c];refine bR ⟨some u,?_,b⟩;rw[(VN c).2,Nat.max_zero];rfl
 ·rintro l H'⟨kv,rfl,b⟩;refine⟨⟨us,cu.of (b _ _ h1),zQ04 _⟩,?_⟩;refine⟨_,rfl,_,_,rfl,rfl,?_⟩;show Q (V.int (((aF (ps.take us.length):Nat):Int)+1)) H';rw[S,List.take_length,show((aF ps:Nat):Int)+1=((depth (.tup (.str x::ps)):Nat):Int)by rw[L];omega];exact q H' (s1.trans b)
theorem tF(D:Df K mg "_law_deep" gj ["_law_thing_here"])(M:Mg mg t):∀n:Nat,bu P w K mg bx "_law_deep" (n+131) ["_law_thing_here"] (Mc n)|0=>bu.never D λvs H Q E⟨d,v,_,_,_,h,_⟩=>absurd h (Nat.not_lt_zero _)|n+1=>Bt D M (tF D M n)
noncomputable def FE(n:Nat)(ps:List D)(j:Nat):List Str:=((List.range j).map λi=>bz n ((ps[i]?).getD .bA)).flatten
theorem xV{n:Nat}{ps:List D}(h:∀p,p∈ps->(bz n p).length<=aD p):∀j,j<=ps.length->(FE n ps j).length<=aH (ps.take j)|0,_=>zQ25 _|j+1,hj=>by obtain⟨p,a⟩:∃p,ps[j]?=some p:=⟨_,zQ03 (by omega)⟩;have b:=xV h j (by omega);have :=h p (m_ a);unfold FE at b⊢;rw[qE,cS,(qw a).1,a,Option.getD_some];omega
theorem xv:∀(n:Nat)(d:D),(bz n d).length<=aD d
 |0,d=>by unfold bz;exact zQ25 _
 |n+1,d=>by
  unfold bz;split
  ·rename_i x ps he;injection he with he;subst he;have a:aD (.tup (.str x::ps))=1+aH ps:=by simp[aD,aH]
   rw[a];split
   ·split;·simp
    ·exact zQ25 _
   ·unfold av;split;·exact zQ25 _
    ·have :=xV (n:=n) (ps:=ps) (λp _=>xv n p) ps.length (zQ04 _);rw[List.take_length]at this;unfold FE at this;omega
  ·exact zQ25 _
theorem Jz{n:Nat}{p:D}(h:isTup p=false):bz n p=[]:=by cases n with|zero=>rfl|succ n=>cases p with|tup ds=>cases h|_=>rfl
def L_(n:Nat):Sp:=λvs H Q _=>∃(d:D)(v:V)(fd:Addr)(F:List Str),vs=[v, .ref fd]/\Rep H d v/\Wf d/\depth d<n/\H fd=some (.lst (F.map V.str))/\F.length+aD d<=100000/\∀H',bg fd H H'->H' fd=some (.lst ((F++bz n d).map V.str))->Q (.ref fd) H'
theorem nR:aG ["_law_thing_here","_law_found","_law_part"] ["_law_thing_here","_law_found"] (ak gf):=⟨rfl,rfl,rfl,by decide+kernel,rfl,by decide+kernel,by decide+kernel⟩
theorem BG{n:Nat}(D:Df K mg "_law_kept" gf ["_law_thing_here","_law_found"])(M:Mg mg t)(kr:bu P w K mg bx "_law_kept" (n+1) ["_law_thing_here","_law_found"] (L_ n)):bu P w K mg bx "_law_kept" (n+2) ["_law_thing_here","_law_found"] (L_ (n+1)):=by
 refine D.ok nR (λvs H Q E h=>?_) (λbase f bS A outer s H vs Q E hr h=>?_);·obtain⟨d,v,fd,F,rfl,_⟩:=h;rfl
 obtain⟨d,v,fd,F,rfl,r,mY,hd,y,Uu,q⟩:=h;refine⟨_,(ag (aT (aw aY (aX bB (pv 0) aj (λ_ _=>rfl)) aq (az _)) (ai (dq (gg PySem.F.plainAttrs_list PySem.F.slot_list_append PySem.F.type_list_append dj (pv 1) (aa (aX bB (pv 0) aj (λ_ _=>rfl)) af)))) aC) (ag (dz PassesOwn.never rfl (zr (eX qq (pv 0) (eT aj) fK)) (bb (i:=2) nR.nd rfl (cj rfl)) (ai (aT (dB (aJ dU rfl M.dr cM (aa (pv 2) (aa (uV M.iB gk rfl) af)))) (ai (dq (aO kr hr.m rfl aQ (aa (pv 2) (aa (pv 1) af))))) aC))) (ai (aA (pv 1))))),?_⟩;try dsimp only[iF,cJ]
 refine CK ?_;intro _ _ _;rename_i D0 v3 v2;obtain⟨x,ps,k,rfl,wf,vf⟩:=jy mY;obtain⟨a,xR,rfl,ha,v0,us,rfl,⟨rfl,B⟩,O⟩:=id r;have QA:=O.length;have W:iA (V.str x::us) (some 1) none=us:=gY (V.str x::us) 1;have rest:∀(o:List Str)(H0:Hp),bg fd H H0->H0 fd=some (.lst (o.map V.str))->(o=if x="name"then F++bz (n+1) (.tup (.str x::ps))else F)->v2 D0 [some (.ref a),some (.ref fd),none] H0:=by
  intro o H0 R Y G;have ntp:∀vs,H fd≠some (.tup vs):=λvs z=>by rw[y]at z;cases z
  have naf:a≠fd:=λz=>by rw[z,y]at ha;cases ha
  have ha0:=R _ _ naf ha;have rp0:bK H0 ps us:=O.d9 R ntp;refine⟨_,rfl,_,rfl,a,_,rfl,cu.of ha0,λC jS=>?_,λz=>absurd (congrArg List.length (W.symm.trans z)) (by simp)⟩;rw[W];have s1:=ao jS (.tup us);have h1:(upd H0 C (.tup us)) C=some (.tup us):=ah;have nf1:C≠fd:=(ay Y jS).symm;generalize upd H0 C (.tup us)=T at s1 h1⊢;have Z:=s1 _ _ Y;have nt1:∀vs,T fd≠some (.tup vs):=λvs z=>by rw[Z]at z;cases z
  have rp1:=rp0.mono s1;have ek:aD (.tup (.str x::ps))=1+aH ps:=by simp[aD,aH]
  have all:o++FE n ps ps.length=F++bz (n+1) (.tup (.str x::ps)):=by
   by_cases B:x="name"
   ·have :FE n ps ps.length=[]:=by
     unfold FE;rw[List.flatten_eq_nil_iff];intro l hl;obtain⟨i,hi,rfl⟩:=List.mem_map.mp hl;have hi:=List.mem_range.mp hi;obtain⟨p,e⟩:∃p,ps[i]?=some p:=⟨_,zQ03 hi⟩;rw[e,Option.getD_some];rcases ky wf e with⟨g,b⟩|⟨g,b⟩;·subst B;obtain⟨z,rfl⟩:=g8 wf;unfold av at b;rw[if_pos (by decide+kernel)]at b;cases b
     ·exact Jz g
    rw[this,eF,G,if_pos B]
   ·rw[G,if_neg B];congr 1;have :bz (n+1) (.tup (.str x::ps))=FE n (av x ps) (av x ps).length:=by
     conv=>lhs;unfold bz
     rw[if_neg B];rfl
    rw[this];cases J:ps with
     |nil=>rw[show av x []=[]by unfold av;split<;>rfl]
     |cons p0 ps'=>
      rw[<-J];rcases ky wf (i:=0) (p:=p0) (by rw[J];rfl)with⟨g,b⟩|⟨g,b⟩;·rw[b]
      ·rw[b];unfold FE;rw[List.flatten_eq_nil_iff.mpr];·rfl
       intro l hl;obtain⟨i,hi,rfl⟩:=List.mem_map.mp hl;have hi:=List.mem_range.mp hi;obtain⟨p,e⟩:∃p,ps[i]?=some p:=⟨_,zQ03 hi⟩;rw[e,Option.getD_some];rcases ky wf e with⟨U,L⟩|⟨U,L⟩;·rw[b]at L;rw[<-L]at J;cases J
       ·exact Jz U
  refine⟨C,rfl,⟨_,cu.of h1⟩,eA us.length (λj S H'=>∃kv,S=[some (.ref a),some (.ref fd),kv]/\H' fd=some (.lst ((o++FE n ps j).map V.str))/\bg fd T H') ⟨none,rfl,by rw[Z];simp[FE],λ_ _ _ h=>h⟩ ?_ ?_⟩
  ·rintro i S H' hi⟨kv,rfl,I,m⟩;have X:=m _ _ nf1 h1;obtain⟨p,e⟩:∃p,ps[i]?=some p:=⟨_,zQ03 (by omega)⟩;obtain⟨u,hu,ru⟩:=rp1.get e;have HS:Rep H' p u:=Rep.d9 m nt1 ru;refine⟨⟨us,u,cu.of X,hu⟩,?_⟩;rintro x' H3⟨rfl,hy⟩;have HP:=hy us (cu.of X);rw[hu]at HP;cases HP;refine⟨_,rfl,_,_,_,_,rfl,HS.ty,k_ _ p,_,rfl,?_⟩;have N:FE n ps (i+1)=FE n ps i++bz n p:=by unfold FE;rw[qE,e,Option.getD_some]
   rw[N];rcases ky wf e with⟨g,b⟩|⟨g,b⟩
   ·rw[g];obtain⟨w1,w2⟩:=dy wf (i:=i) (p:=p) (by rw[b];exact e);have hn:x≠"name":=λz=>by subst z;obtain⟨z,rfl⟩:=g8 wf;unfold av at b;rw[if_pos (by decide+kernel)]at b;cases b
    rw[if_neg hn]at G;have l1:=xV (n:=n) (ps:=ps) (λp _=>xv n p) i (by omega);have l2:=(qw e).1;have l3:=Xs (ps:=ps) (i+1);refine bj ⟨_,rfl,_,rfl,p,u,fd,o++FE n ps i,rfl,HS,w1,by omega,I,by rw[cS,G];omega,λH4 s4 h4=>⟨some u,rfl,?_,m.trans s4⟩⟩;rw[h4,List.append_assoc]
   ·rw[g];refine bR ⟨some u,rfl,?_,m⟩;rw[Jz g,eF];exact I
  ·rintro S H'⟨kv,rfl,I,m⟩;refine⟨⟨us,cu.of (m _ _ nf1 h1),zQ04 _⟩,_,rfl,q H' (R.trans (s1.x.trans m)) ?_⟩;rw[I,QA,all]
 have N:lJ (V.str x::us) 0=some (.str x):=aR (j:=0) rfl;refine⟨_,rfl,a,_,_,_,rfl,rfl,cu.of ha,N,rfl,_,rfl,?_⟩;refine bL (λc=>?_) (λc=>?_)
 ·have c:V.str x=V.str "name":=of_decide_eq_true c;cases c;obtain⟨z,rfl⟩:=g8 wf;obtain⟨u1,RD,rfl,⟨r1,_⟩,_⟩:=O;subst r1;refine⟨_,rfl, .inl ⟨rfl,_,aZ.of y⟩,_,rfl,a,_,_, .str z,rfl,rfl,cu.of ha,aR (j:=1) rfl,fd,_,_,rfl,rfl,y,?_,?_⟩;·rw[bD,show sizeLine=16777216 by decide];omega
  refine rest (F++[z]) _ (bg.upd _) ?_ ?_;·rw[ah,eW];rfl
  ·rw[if_pos rfl];rfl
 ·have hn:x≠"name":=λz=>c (by rw[z];exact decide_eq_true rfl);exact rest F H (λ_ _ _ h=>h) y (by rw[if_neg hn])
theorem sI(D:Df K mg "_law_kept" gf ["_law_thing_here","_law_found"])(M:Mg mg t):∀n:Nat,bu P w K mg bx "_law_kept" (n+1) ["_law_thing_here","_law_found"] (L_ n)|0=>bu.never D λvs H Q E⟨d,v,_,_,_,_,_,h,_⟩=>absurd h (Nat.not_lt_zero _)|n+1=>BG D M (sI D M n)
theorem QD{k:Bool}{x:Str}{ps:List D}(wf:dC aS k (.tup (.str x::ps))=true)(g:av x ps≠[]):x∈kZ/\dY x=k:=by
 obtain⟨sh,i,d,j,l,m,n,o,r,e,f⟩:=bw wf;have b:=List.all_eq_true.mp A8 _ (rh e);have c:x∈kZ:=by rw[if_neg λz=>g (List.length_eq_zero_iff.mp (by rw[<-f,show r=[]from z];rfl))]at b;exact of_decide_eq_true b
 have a:=List.all_eq_true.mp sf x c;simp only[bF,decide_eq_true_eq]at a;have h:dE x=dY x:=by simpa using a.2.2.2.2.1
 exact⟨c,by rw[<-d,h]⟩
theorem Kg:(kZ.all λx=>(decide (bN x=(iV x).cps.toList.map (λc=>if c=107 then Str.ofString "kind"else"term"))&&(iV x).cps.toList.all (λc=>decide (c=107\/c=116)))&&((if pN x=-1 then !fQ x BO else fQ x BO&&decide (dw x= .int (pN x)))&&(decide (0<=pN x\/pN x=-1)&&decide ((iV x).length<=4))))=true:=by decide+kernel
theorem Pg{x:Str}(a:x∈kZ)(i:Nat):tH x i=if((i:Nat):Int)=pN x then 1 else 0:=by
 have h:=List.all_eq_true.mp Kg x a;simp only[bF,decide_eq_true_eq]at h;obtain⟨_,h,_,_⟩:=h;unfold tH;split at h
 ·rename_i hb;rw[if_neg (show¬((i:Nat):Int)=pN x by rw[hb];omega)];have hi:fQ x BO=false:=by simpa using h
  have :dw x= .bA:=by unfold dw;unfold fQ at hi;cases e:KTD.datumAt x BO with|some v=>rw[e]at hi;cases hi|none=>rfl
  rw[this,if_neg (by simp)]
 ·rw[bF]at h;rw[of_decide_eq_true h.2];by_cases c:((i:Nat):Int)=pN x;·rw[if_pos c,if_pos (by rw[c];simp)]
  ·rw[if_neg c,if_neg (by simp;exact c)]
def L9(n:Nat):Sp:=λvs H Q _=>∃(d:D)(v:V)(b:Int),vs=[v, .int b]/\Rep H d v/\Wf d/\depth d<n/\0<=b/\(∀z,z∈bW n b d->z<=35)/\∀(g:Int)(H':Hp),aE H H'->(∀z,z∈bW n b d->z<=g)->g<=35->(b=0->-1<=g)->Q (.int g) H'
theorem dI:aG ["_law_thing_here","_law_over","_law_found","_law_k"] ["_law_thing_here","_law_over"] (ak cW):=⟨rfl,rfl,rfl,by decide+kernel,rfl,by decide+kernel,by decide+kernel⟩
theorem pH{n:Nat}(D:Df K mg "_law_greatest" cW ["_law_thing_here","_law_over"])(M:Mg mg t)(bZ:bu P w K mg bx "_law_bound" (1) ["_law_word"] Bg)(fZ:bu P w K mg bx "_law_greatest" (n+131) ["_law_thing_here","_law_over"] (L9 n)):bu P w K mg bx "_law_greatest" (n+132) ["_law_thing_here","_law_over"] (L9 (n+1)):=by
 refine D.ok dI (λvs H Q E h=>?_) (λbase f bS A outer s H vs Q E hr h=>?_);·obtain⟨d,v,b,rfl,_⟩:=h;rfl
 obtain⟨d,v,b,rfl,r,mY,hd,hb,o,q⟩:=h;have hh:=hr.hd (by omega);refine⟨_,(ag (aT (aw aY (aX bB (pv 0) aj (λ_ _=>rfl)) aq (az _)) (ai (aA (aN iP (aX bB (pv 0) aj (λ_ _=>rfl)) (pv 1)))) aC) (ag (aI (i:=2) dI.nd rfl (cj rfl) (rJ kf aj)) (ag (dz PassesOwn.never rfl (GS rfl M.fO (aa aj (aa (aJ aM rfl M.cH bO (aa (pv 0) af)) af))) (bb (i:=3) dI.nd rfl (cj rfl)) (ai (aT (dB (aJ dU rfl M.dr cM (aa (aX bB (pv 0) (pv 3) (λ_ _=>rfl)) (aa (uV M.iB gk rfl) af)))) (ai (aI (i:=2) dI.nd rfl (cj rfl) (aJ (uX hh) rfl M.FU CC (aa (pv 2) (aa (aO fZ hr.m rfl aQ (aa (aX bB (pv 0) (pv 3) (λ_ _=>rfl)) (aa (aN dN (pv 1) (bY uZ rfl M.BI tZ (aa (cG aY (aN iP (pv 3) aj) (aO bZ hr.m rfl aQ (aa (aX bB (pv 0) aj (λ_ _=>rfl)) af)) (az _)) af))) af))) af))))) aC))) (ai (aA (pv 2)))))),?_⟩;try dsimp only[iF,cJ]
 refine pq ?_;intro _ _ _ _;obtain⟨x,ps,k,rfl,wf,vf⟩:=jy mY;obtain⟨a,xR,rfl,ha,v0,us,rfl,⟨rfl,hx⟩,T⟩:=id r;have QA:=T.length;have X:lJ (V.str x::us) 0=some (.str x):=aR (j:=0) rfl;refine⟨_,rfl,a,_,_,_,rfl,rfl,cu.of ha,X,rfl,_,rfl,?_⟩;refine bL (λc=>?_) (λc=>?_)
 ·have c:V.str x=V.str "var":=of_decide_eq_true c;cases c;obtain⟨sh,W,_,J,_,L,_⟩:=bw wf;rw[eJ]at W;cases W;rw[vh]at J L;obtain⟨y,rfl⟩:∃y,ps=[y]:=by cases ps with|nil=>simp at L|cons y rest=>cases rest with|nil=>exact⟨y,rfl⟩|cons _ _=>simp at L
  rw[bM,bF]at J;have hn:gW y=true:=by simpa[iX]using J.1
  obtain⟨i,rfl⟩:∃i,y= .int i:=by cases y<;>first|exact⟨_,rfl⟩|simp[gW]at hn
  obtain⟨u1,RD,rfl,r1,_⟩:=T;cases(show u1=V.int i from r1);have h0:0<=i:=by simp[gW]at hn;omega
  have e:bW (n+1) b (.tup [.str "var", .int i])=if b<=i then[i-b]else[]:=by rw[bW,if_pos rfl]
  rw[e]at q o;refine⟨_,rfl,a,_,_, .int i,rfl,rfl,cu.of ha,aR (j:=1) rfl,_,rfl,_,_,rfl,rfl,q (i-b) H (aE.refl H) ?_ ?_ ?_⟩
  ·intro z o;split at o;·rw[List.mem_singleton.mp o];exact Int.le_refl _
   ·exact absurd o zQ14
  ·by_cases c:b<=i;·exact o _ (by rw[if_pos c];exact List.mem_singleton.mpr rfl)
   ·omega
  ·intro hb0;omega
 have hv:x≠"var":=λz=>c (by rw[z];exact decide_eq_true rfl);have e:bW (n+1) b (.tup (.str x::ps))=((List.range (av x ps).length).map λi=>bW n (b+tH x i) (((av x ps)[i]?).getD .bA)).flatten:=by
  conv=>lhs;unfold bW
  exact if_neg hv
 rw[e]at q o;have Dn:∀(i:Nat)(p:KM.D),(av x ps)[i]?=some p->∀z,z∈bW n (b+tH x i) p->z∈((List.range (av x ps).length).map λi=>bW n (b+tH x i) (((av x ps)[i]?).getD .bA)).flatten:=λi p m z h=>by have hi:i<(av x ps).length:=(List.getElem?_eq_some_iff.mp m).1;exact List.mem_flatten.mpr ⟨_,List.mem_map.mpr ⟨i,List.mem_range.mpr hi,rfl⟩,by rw[m,Option.getD_some];exact h⟩
 have big:-(2^62:Int)<=(((V.str x::us).length:Nat):Int)/\(((V.str x::us).length:Nat):Int)<2^62:=by rw[b_];omega
 refine⟨_,rfl,_,rfl,a,_,rfl, .inr (cu.of ha),1,_,rfl,⟨by decide,by decide,big.1,big.2⟩,?_⟩;rw[show((((V.str x::us).length:Nat):Int)-1).toNat=us.length by rw[b_];omega];refine eA us.length (λj U H'=>∃(g:Int)(kv:Option V),U=[some (.ref a),some (.int b),some (.int g),kv]/\aE H H'/\-1<=g/\g<=35/\∀i p,i<j->(av x ps)[i]?=some p->∀z,z∈bW n (b+tH x i) p->z<=g) ⟨-1,none,rfl,aE.refl H,by omega,by omega,λi p hi=>absurd hi (Nat.not_lt_zero _)⟩ ?_ ?_
 ·rintro j U H' hj⟨g,kv,rfl,C,N,O,R⟩;refine⟨hj,?_⟩;rintro x' H3⟨rfl,rfl⟩;obtain⟨p,m⟩:∃p,ps[j]?=some p:=⟨_,zQ03 (by omega)⟩;obtain⟨u,hu,ru⟩:=T.get m;have HS:=ru.mono C;have S:=C _ _ ha;have e0:(1:Int)+(j:Int)=((j+1:Nat):Int):=by omega
  have Y:lJ (V.str x::us) (1+(j:Int))=some u:=by rw[e0];exact aR (j:=j+1) hu
  refine⟨_,rfl,_,rfl,a,_,_,_,rfl,rfl,cu.of S,Y,_,_,_,_,rfl,HS.ty,k_ _ p,_,rfl,?_⟩;rcases ky wf m with⟨G,I⟩|⟨G,I⟩
  ·rw[G];have F:(av x ps)[j]?=some p:=by rw[I];exact m
   obtain⟨w1,w2⟩:=dy wf F;obtain⟨fx,_⟩:=QD wf (λz=>by rw[z]at F;cases F);have V6:=Pg fx j;refine bj ⟨_,rfl,_,rfl,_,rfl,a,_,_,_,rfl,rfl,cu.of S,Y,?_⟩;refine⟨_,rfl,_,rfl,_,_,rfl,rfl,_,rfl,a,_,_,_,rfl,rfl,cu.of S,X,x,rfl,rfl, .inr ⟨_,rfl,_,_,rfl,rfl,p,u,b+tH x j,?_,HS,w1,by omega,?_,λz h=>o z (Dn j p F z h),λg' H4 s4 h1 h2 h3=>?_⟩⟩
   ·show[u,V.int (b+if decide (V.int (1+(j:Int)-1)=V.int (pN x))=true then 1 else 0)]=_;rw[V6,show(1:Int)+(j:Int)-1=((j:Nat):Int)by omega];by_cases c:((j:Nat):Int)=pN x;·rw[if_pos c,if_pos (by rw[c];exact decide_eq_true rfl)]
    ·rw[if_neg c,if_neg (λh=>c (by have :=of_decide_eq_true h;injection this))]
   ·have :=Kq x j;omega
   ·refine⟨_,_,rfl,(if g'>g then g' else g),some (.int (1+(j:Int))),rfl,C.trans s4,by split<;>omega,by split<;>omega,λi p' hi B z Z=>?_⟩;by_cases Z9:i=j;·subst Z9;rw[F]at B;cases B;have :=h1 z Z;split<;>omega
    ·have :=R i p' (by omega) B z Z;split<;>omega
  ·rw[G];refine bR ⟨g,_,rfl,C,N,O,λi p' hi B=>?_⟩;rw[I]at B;cases B
 ·rintro U H'⟨g,kv,rfl,C,N,O,R⟩;refine⟨zQ04 _,_,rfl,q g H' C ?_ O (λ_=>N)⟩;intro z h;obtain⟨l,hl,Ao⟩:=List.mem_flatten.mp h;obtain⟨i,hi,rfl⟩:=List.mem_map.mp hl;have hi:=List.mem_range.mp hi;obtain⟨p,m⟩:∃p,(av x ps)[i]?=some p:=⟨_,zQ03 hi⟩;rw[m,Option.getD_some]at Ao;refine R i p ?_ m z Ao;unfold av at hi;split at hi;·simp at hi
  ·omega
theorem jt(D:Df K mg "_law_greatest" cW ["_law_thing_here","_law_over"])(M:Mg mg t)(a:bu P w K mg bx "_law_bound" (1) ["_law_word"] Bg):∀n:Nat,bu P w K mg bx "_law_greatest" (n+131) ["_law_thing_here","_law_over"] (L9 n)|0=>bu.never D λvs H Q E⟨d,v,b,_,_,_,h,_⟩=>absurd h (Nat.not_lt_zero _)|n+1=>pH D M a (jt D M a n)
noncomputable def six:List Str:=["b","c","plus","lookalikeone","lookalikezne","aa"]
structure mZ(k:Bool)(b:Nat)(d:D):Prop where
 wf:dC aS k d=true
 cm:cI d=true
 nm:∀n z,z∈bz n d->z∈six
 fr:∀n z,z∈bW n (b:Int) d->0<=z/\z<=35
theorem mL{k:Bool}{b:Nat}{x:Str}(wf:dC aS k (.tup [.str x])=true)(cm:cI (.tup [.str x])=true)(h:x≠"var")(h':x≠"name"):mZ k b (.tup [.str x]):=by
 refine⟨wf,cm,λn z a=>?_,λn z a=>?_⟩;·cases n with|zero=>exact absurd a zQ14|succ n=>unfold bz at a;rw[if_neg h',show av x []=[]by unfold av;split<;>rfl]at a;exact absurd a zQ14
 ·cases n with|zero=>exact absurd a zQ14|succ n=>unfold bW at a;rw[if_neg h,show av x []=[]by unfold av;split<;>rfl]at a;exact absurd a zQ14
theorem FL{k:Bool}{b:Nat}{x:Str}{ps:List D}(wf:dC aS k (.tup (.str x::ps))=true)(cm:cI (.tup (.str x::ps))=true)(h:x≠"var")(h':x≠"name")(e:∀i p,(av x ps)[i]?=some p->∃f,mZ f (b+ig x i) p):mZ k b (.tup (.str x::ps)):=by
 refine⟨wf,cm,λn z a=>?_,λn z a=>?_⟩;·cases n with|zero=>exact absurd a zQ14|succ n=>unfold bz at a;rw[if_neg h']at a;obtain⟨l,hl,d⟩:=List.mem_flatten.mp a;obtain⟨i,hi,rfl⟩:=List.mem_map.mp hl;have hi:=List.mem_range.mp hi;obtain⟨p,c⟩:∃p,(av x ps)[i]?=some p:=⟨_,zQ03 hi⟩;rw[c,Option.getD_some]at d;obtain⟨_,g⟩:=e i p c;exact g.nm n z d
 ·cases n with|zero=>exact absurd a zQ14|succ n=>unfold bW at a;rw[if_neg h]at a;obtain⟨l,hl,d⟩:=List.mem_flatten.mp a;obtain⟨i,hi,rfl⟩:=List.mem_map.mp hl;have hi:=List.mem_range.mp hi;obtain⟨p,c⟩:∃p,(av x ps)[i]?=some p:=⟨_,zQ03 hi⟩;rw[c,Option.getD_some,EV]at d;obtain⟨_,g⟩:=e i p c;exact g.fr n z (by push_cast;exact d)
theorem JV{b:Nat}:∀n:Nat,mZ false b (fL n)
 |0=>mL (rH 0) (qJ 0) (by decide+kernel) (by decide+kernel)
 |n+1=>FL (x:="next") (ps:=[fL n]) (rH (n+1)) (qJ (n+1)) (by decide+kernel) (by decide+kernel) λi p a=>⟨false,by
  have e:av "next" [fL n]=[fL n]:=by unfold av;rw[if_neg (by decide+kernel)]
  rw[e]at a;cases i with|zero=>cases a;exact JV n|succ i=>simp at a⟩
theorem NH{b:Nat}{z:Str}(h:z∈six):mZ false b (.tup [.str "name", .str z]):=by
 have a:(six.all λz=>cI (.tup [.str "name", .str z]))=true:=by decide+kernel
 refine⟨?_,List.all_eq_true.mp a z h,λn y c=>?_,λn y c=>?_⟩;·exact iN (w:="name") (s:="w") (by decide+kernel) (by decide+kernel) (by rw[show(Str.ofString "w").cps.toList=[119]by decide+kernel,bM];rfl)
 ·cases n with|zero=>exact absurd c zQ14|succ n=>unfold bz at c;rw[if_pos rfl]at c;rw[List.mem_singleton.mp c];exact h
 ·cases n with|zero=>exact absurd c zQ14|succ n=>unfold bW at c;rw[if_neg (by decide+kernel),show av "name" [.str z]=[]by unfold av;rw[if_pos (by decide+kernel)]]at c;exact absurd c zQ14
theorem wV{b:Nat}{i:Int}(c:0<=i)(h1:i<=99)(h2:i<=b+35):mZ false b (.tup [.str "var", .int i]):=by
 refine⟨?_,?_,λn y a=>?_,λn y a=>?_⟩;·exact iN (w:="var") (s:="n") (by decide+kernel) (by decide+kernel) (by rw[show(Str.ofString "n").cps.toList=[110]by decide+kernel,bM];simp[iX,gW,mV];omega)
 ·show(cI (.str "var")&&(cI (.int _)&&true))=true;rw[show cI (.str "var")=true by decide+kernel];rfl
 ·cases n with|zero=>exact absurd a zQ14|succ n=>unfold bz at a;rw[if_neg (by decide+kernel),show av "var" [.int i]=[]by unfold av;rw[if_pos (by decide+kernel)]]at a;exact absurd a zQ14
 ·cases n with
   |zero=>exact absurd a zQ14
   |succ n=>
    rw[bW,if_pos rfl]at a;split at a;·rw[List.mem_singleton.mp a];omega
    ·exact absurd a zQ14
structure LfT(p:Addr)(k:Bool)(b:Nat)(i left:Int)(H:Hp)(v:V)(H':Hp):Prop where
 ex:∃(d:D)(jv:Int),bg p H H'/\H' p=some (.lst [.int i, .int jv])/\0<=jv/\jv<=left/\mZ k b d/\depth d<=31/\((aD d:Nat):Int)<=1+(left-jv)/\Rep H' d v
theorem fU{H:Hp}{p:Addr}{x:Str}{ds:List D}{vs:List V}(h:H p=some (.tup (.str x::vs)))(a:x.length<=1000)(r:bK H ds vs):Rep H (.tup (.str x::ds)) (.ref p):=⟨p,_,rfl,h,_,_,rfl,⟨rfl,a⟩,r⟩
def NL:Sp:=λvs H Q _=>∃(c:Int)(want:Str)(b:Nat)(p:Addr)(i left:Int),vs=[.int c, .str want, .int (b:Nat), .ref p]/\H p=some (.lst [.int i, .int left])/\0<=left/\left<=200/\b<=50/\(want="k"\/want="t")/\∀(v:V)(H':Hp),LfT p (decide (want="k")) b i left H v H'->Q v H'
theorem fz:aG ["_law_cell","_law_want","_law_over","_law_state","_law_many","_law_thing_here","_law_k"] ["_law_cell","_law_want","_law_over","_law_state"] (ak iH):=⟨rfl,rfl,rfl,by decide+kernel,rfl,by decide+kernel,by decide+kernel⟩
theorem CP(D:Df K mg "_law_leaf" iH ["_law_cell","_law_want","_law_over","_law_state"])(M:Mg mg t):bu P w K mg bx "_law_leaf" (131) ["_law_cell","_law_want","_law_over","_law_state"] NL:=by
 refine D.ok fz (λvs H Q E h=>?_) (λbase f bS A outer s H vs Q E hr h=>?_);·obtain⟨c,want,b,p,i,left,rfl,_⟩:=h;rfl
 obtain⟨c,want,b,p,i,left,rfl,d,o,l1,hb,hw,q⟩:=h;have hu:=vy hr;have hh:=hr.hd (by decide);refine⟨_,(ag (aT (aw aY (pv 1) aq (az _)) (ai (aA (aX bJ (bX (aa (bp (aa aq af)) (aa (bp (aa aq af)) af))) (aN cB (pv 0) aj) (λ_ _=>rfl)))) aC) (ag (aT (aw aY (aN cB (pv 0) aj) aj (az _)) (ag (aI (i:=4) fz.nd rfl (cj rfl) (aJ (GR hh) rfl M.Of IS (aa (aN cB (aN dn (pv 0) aj) aj) (aa (aX bJ (pv 3) aj (λ_ _=>rfl)) af)))) (ag (Ip (aN iP (aX bJ (pv 3) aj (λ_ _=>rfl)) (pv 4)) (Kt (pv 3) aj set_list)) (ag (aI (i:=5) fz.nd rfl (cj rfl) (bp (aa aq af))) (ag (dz PassesOwn.never rfl (dP rfl M.fO (aa (pv 4) af)) (bb (i:=6) fz.nd rfl (cj rfl)) (ai (aI (i:=5) fz.nd rfl (cj rfl) (bp (aa aq (aa (pv 5) af)))))) (ai (aA (pv 5))))))) aC) (ag (aT (aw aY (aN cB (pv 0) aj) aj (az _)) (ai (aA (bp (aa aq (aa (aX bJ (bX (aa aq (aa aq (aa aq (aa aq (aa aq (aa aq af))))))) (aN cB (aN dn (pv 0) aj) aj) (λ_ _=>rfl)) af))))) aC) (ai (aA (bp (aa aq (aa (aN cB (aN dn (pv 0) aj) (aN dN (pv 2) aj)) af)))))))),?_⟩;try dsimp only[iF,cJ]
 refine pq ?_;intro _ _ _ _;refine⟨_,rfl,rfl,_,rfl,?_⟩;rw[sd];have R:depth nu<=31:=by decide+kernel
 have S:depth (.tup [.str "none"])<=31:=by decide+kernel
 have X:aD nu=1:=by decide+kernel
 have Y:aD (.tup [.str "none"])=1:=by decide+kernel
 rcases hw with rfl|rfl
 ·rw[decide_eq_true rfl];rw[decide_eq_true rfl]at q;refine bj ⟨(gu rfl),λa k=>⟨(gu rfl),λl e=>⟨(gu rfl),λZ U=>?_⟩⟩⟩;obtain⟨v,hv,hm⟩:=El (xs:=[V.ref a, .ref l]) (m:=2) c (by simp) (by decide);have n:=ao k (.tup [V.str "nat"]);have g:=ao e (.tup [V.str "none"]);have B:=ao U (.lst [V.ref a, .ref l]);have t:=n.trans (g.trans B);refine⟨_,rfl,_,_,rfl,rfl,(by show(0:Int)<2;decide),Z,_,_,v,rfl,rfl,aZ.of ah,hv,?_⟩;simp only[zQ29,zQ14,or_false]at hm;rcases hm with rfl|rfl;·exact q _ _ ⟨nu,left,t.x,t _ _ d,o,Int.le_refl _,mL yI (by decide+kernel) (by decide+kernel) (by decide+kernel),R,by rw[X];omega,fU ((g.trans B) _ _ ah) (by decide+kernel) rfl⟩
  ·exact q _ _ ⟨.tup [.str "none"],left,t.x,t _ _ d,o,Int.le_refl _,mL (iN (w:="none") (s:="") (by decide+kernel) (by decide+kernel) (by rw[show(Str.ofString "").cps.toList=[]by decide+kernel];rfl)) (by decide+kernel) (by decide+kernel) (by decide+kernel),S,by rw[Y];omega,fU (B _ _ ah) (by decide+kernel) rfl⟩
 have I:¬(Str.ofString "t"=Str.ofString "k"):=by decide+kernel
 rw[decide_eq_false I];rw[decide_eq_false I]at q;refine bR ⟨_,rfl,_,_,rfl,rfl,(by show(0:Int)<4;decide),rfl,_,rfl,bL (λ_=>?_) (λ_=>?_)⟩
 ·have N:=Int.emod_nonneg (c/4) (show(31:Int)≠0 by decide);have x1:=Int.emod_lt_of_pos (c/4) (show(0:Int)<31 by decide);refine⟨_,rfl,_,_,rfl,rfl,⟨by decide,by decide⟩,_,_,rfl,rfl,(by show(0:Int)<31;decide),_,rfl,p,_,_,_,rfl,rfl,aZ.of d,aR (j:=1) rfl,_,_,rfl,?_⟩;obtain⟨m,hm,hm1,hm2⟩:∃m:Nat,(if left<c/4%31 then left else c/4%31)=(m:Int)/\m<31/\(m:Int)<=left:=by
   by_cases h:left<c/4%31;·exact⟨left.toNat,by rw[if_pos h];omega,by omega,by omega⟩
   ·exact⟨(c/4%31).toNat,by rw[if_neg h];omega,by omega,by omega⟩
  show sj 4 (V.int (if left<c/4%31 then left else c/4%31)) _ _ _;rw[hm];refine⟨_,rfl,p,_,_,_,rfl,rfl,aZ.of d,aR (j:=1) rfl,_,rfl,_,_,rfl,rfl,_,rfl,p,_,_,1,rfl,rfl,d,rfl,?_⟩;have L:bg p H (upd H p (.lst [V.int i, .int (left-(m:Int))])):=bg.upd _;have k:(upd H p (.lst [V.int i, .int (left-(m:Int))])) p=some (.lst [V.int i, .int (left-(m:Int))]):=ah;show(aL _ _) _ _ (upd H p (.lst [V.int i, .int (left-(m:Int))]));generalize upd H p (.lst [V.int i, .int (left-(m:Int))])=x at L k⊢;refine⟨(gu rfl),λa T=>?_⟩;have n:=ao T (.tup [V.str "zero"]);have J:Rep (upd x a (.tup [V.str "zero"])) (fL 0) (.ref a):=fU ah (by decide+kernel) rfl;generalize upd x a (.tup [V.str "zero"])=H2 at n J⊢;refine⟨_,rfl,(m:Int),rfl,(by show-(2^62)<=((m:Nat):Int);omega),(by show((m:Nat):Int)<2^62;omega),?_⟩;rw[show(((m:Nat):Int)).toNat=m by omega];let O:Nat->L2.St->Hp->Prop:=(λj C H'=>∃(u:V)(kv:Option V),C=[some (.int c),some (.str "t"),some (.int (b:Nat)),some (.ref p),some (.int (m:Nat)),some u,kv]/\Rep H' (fL j) u/\aE x H');refine eA m O ?_ ?_ ?_;·exact⟨_,none,rfl,J,n⟩
  ·rintro j C F hj⟨u,kv,rfl,y,r⟩;refine⟨hj,?_⟩;rintro x' H4⟨rfl,rfl⟩;refine⟨_,rfl,(gu rfl),λl e=>?_⟩;have g:=ao e (.tup [V.str "next",u]);exact⟨.ref l,_,rfl,fU ah (by decide+kernel) ⟨_,_,rfl,y.mono g,rfl⟩,r.trans g⟩
  ·rintro C F⟨u,kv,rfl,y,r⟩;refine⟨zQ04 _,_,rfl,?_⟩;exact q u F ⟨fL m,left-m,L.trans r.x,r _ _ k,by omega,by omega,JV m,by rw[vw];omega,by rw[uN];omega,y⟩
 refine⟨_,rfl,_,_,rfl,rfl,(by show(0:Int)<4;decide),rfl,_,rfl,bL (λ_=>?_) (λ_=>?_)⟩;·refine⟨(gu rfl),λa k=>?_⟩;obtain⟨v,hv,hm⟩:=El (xs:=six.map V.str) (m:=6) (c/4) (by simp[six]) (by decide);obtain⟨z,G,rfl⟩:=List.mem_map.mp hm;have n:=ao k (.lst (six.map V.str));refine⟨_,rfl,_,_,rfl,rfl,⟨by decide,by decide⟩,_,_,rfl,rfl,(by show(0:Int)<6;decide),a,_,_,_,rfl,rfl,aZ.of ah,hv,(gu rfl),λl e=>?_⟩;have g:=ao e (.tup [V.str "name", .str z]);have t:=n.trans g;have W:z.length<=1000:=of_decide_eq_true (List.all_eq_true.mp (show(six.all λz=>decide (z.length<=1000))=true by decide+kernel) z G);exact q _ _ ⟨.tup [.str "name", .str z],left,t.x,t _ _ d,o,Int.le_refl _,NH G,by simp[depth,aF],by simp[aD,aH],fU ah (by decide+kernel) ⟨_,_,rfl,⟨rfl,W⟩,rfl⟩⟩
 ·have N:=Int.emod_nonneg (c/4) (show(b:Int)+4≠0 by omega);have x1:=Int.emod_lt_of_pos (c/4) (show(0:Int)<(b:Int)+4 by omega);refine⟨_,rfl,_,_,rfl,rfl,⟨by decide,by decide⟩,_,rfl,_,_,rfl,rfl,_,_,rfl,rfl,(by show(0:Int)<(b:Int)+4;omega),(gu rfl),λl e=>?_⟩;have t:=ao e (.tup [V.str "var", .int (c/4%((b:Int)+4))]);exact q _ _ ⟨.tup [.str "var", .int (c/4%((b:Int)+4))],left,t.x,t _ _ d,o,Int.le_refl _,wV N (by omega) (by omega),by simp[depth,aF],by simp[aD,aH],fU ah (by decide+kernel) ⟨_,_,rfl,rfl,rfl⟩⟩
theorem Wy{k:Bool}{d:D}(wf:dC aS k d=true):Ax d=k:=by obtain⟨x,ps,rfl⟩:=eN wf;obtain⟨_,_,e,_⟩:=bw wf;exact e
theorem Ec:∀{ps:List D},(∀p,p∈ps->cI p=true)->ju ps=true|[],_=>rfl|a::l,h=>by show(cI a&&ju l)=true;rw[h a bI,Ec λp b=>h p (ck _ b)];rfl
theorem kS{b:Nat}{x:Str}{ps:List D}(d:x∈kZ)(hl:ps.length=(bN x).length)(f:∀i p,ps[i]?=some p->∃dd:Str,(bN x)[i]?=some dd/\mZ (decide (dd="kind")) (b+ig x i) p):mZ (dY x) b (.tup (.str x::ps)):=by
 have h:=List.all_eq_true.mp sf x d;simp only[bF]at h;obtain⟨h1,h2,h3,h4,h5,h6,a⟩:=h;have m:dE x=dY x:=by simpa using h5
 have nv:x≠"var":=λz=>by rw[z]at d;revert d;decide+kernel
 have j:x≠"name":=λz=>by rw[z]at d;revert d;decide+kernel
 have wf:dC aS (dY x) (.tup (.str x::ps))=true:=by cases es:cO x with|str s=>rw[es]at a;rw[bF]at a;refine iN es m (DX (x:=x) _ _ _ (of_decide_eq_true a.1) (λc hc=>of_decide_eq_true (List.all_eq_true.mp a.2 c hc)) hl λi p e=>?_);obtain⟨dd,k,g⟩:=f i p e;exact⟨dd,k,Wy g.wf,g.wf⟩|_=>rw[es]at a;cases a
 have l:av x ps=ps:=by unfold av;rw[if_neg (by unfold gG;simp[nv,j])]
 refine FL wf ?_ nv j λi p e=>?_
 ·show((PyData.str x).canLay0&&ju ps)=true;rw[h6,Ec λp n=>?_];·rfl
  ·obtain⟨i,hi⟩:=List.getElem?_of_mem n;obtain⟨_,_,g⟩:=f i p hi;exact g.cm
 ·rw[l]at e;obtain⟨dd,_,g⟩:=f i p e;exact⟨_,g⟩
structure ThT(p:Addr)(k:Bool)(b n i:Nat)(left:Int)(H:Hp)(v:V)(H':Hp):Prop where
 ex:∃(d:D)(i' f:Nat)(jv:Int),bg p H H'/\H' p=some (.lst [.int (i':Nat), .int jv])/\0<=jv/\jv<=left/\i+1<=i'/\i'<=i+1+4*f/\i+f<=i'/\(f=0\/i+f<=63)/\mZ k b d/\depth d<=31+n/\((aD d:Nat):Int)+(i:Int)<=(i':Int)+(left-jv)/\Rep H' d v
def Nd(K:PySem.W.Frag)(n:Nat):Sp:=λvs H Q _=>∃(a p:Addr)(ns:List Int)(want:Str)(m i b:Nat)(left:Int),vs=[.ref a, .ref p, .str want, .int (m:Nat), .int (b:Nat)]/\m<n/\(∀H',bg p H H'->aZ K H' a (ns.map V.int))/\H p=some (.lst [.int (i:Nat), .int left])/\i<=300/\0<=left/\left<=200/\b+m<=50/\(want="k"\/want="t")/\∀(v:V)(H':Hp),ThT p (decide (want="k")) b m i left H v H'->Q v H'
noncomputable def nB:List Str:=["fun","app","next","rec","like","carry","never","pair","first","second"]
noncomputable def wQ:List Str:=["all","some","same"]
theorem E_:∀y∈nB,y∈kZ/\dY y=false:=λy a=>by have :=List.all_eq_true.mp (show(nB.all λy=>decide (y∈kZ)&&!dY y)=true by decide+kernel) y a;simpa using this
theorem E6:∀y∈wQ,y∈kZ/\dY y=true:=λy a=>by have :=List.all_eq_true.mp (show(wQ.all λy=>decide (y∈kZ)&&dY y)=true by decide+kernel) y a;simpa using this
theorem b0:aG ["_law_script","_law_state","_law_want","_law_deep_here","_law_over","_law_cell","_law_forms","_law_word","_law_kids","_law_k","_law_under"] P6 (ak ft):=⟨rfl,rfl,rfl,by decide+kernel,rfl,by decide+kernel,by decide+kernel⟩
theorem xh{n:Nat}(D:Df K mg "_law_thing" ft P6)(M:Mg mg t)(bo:bu P w K mg bx "_law_cell_at" (1) ["_law_script","_law_k"] (qS K))(iq:bu P w K mg bx "_law_leaf" (131) ["_law_cell","_law_want","_law_over","_law_state"] NL)(bZ:bu P w K mg bx "_law_bound" (1) ["_law_word"] Bg)(fe:bu P w K mg bx "_law_shape" (1) ["_law_word"] IM)(jg:bu P w K mg bx "_law_thing" (n+132) P6 (Nd K n)):bu P w K mg bx "_law_thing" (n+133) P6 (Nd K (n+1)):=by
 refine D.ok b0 (λvs H Q E h=>?_) (λbase f bS A outer s H vs Q E hr h=>?_);·obtain⟨a,p,ns,want,m,i,b,left,rfl,_⟩:=h;rfl
 obtain⟨a,p,ns,want,m,i,b,left,rfl,hmn,hS,hp,hi,l0,l1,hbm,hw,q⟩:=h;refine⟨_,(ag (aI (i:=5) b0.nd rfl (cj rfl) (aO bo hr.m rfl aQ (aa (pv 0) (aa (aX bJ (pv 1) aj (λ_ _=>rfl)) af)))) (ag (Ip (aN dN (aX bJ (pv 1) aj (λ_ _=>rfl)) aj) (Kt (pv 1) aj set_list)) (ag (aT (L2.PW.pt (fE (aw aY (pv 3) aj (az _)) (fE (aw aY (aN cB (pv 5) aj) aj (az _)) (fB (aw nZ (aX bJ (pv 1) aj (λ_ _=>rfl)) aj (az _)))))) (ai (aA (aO iq hr.m rfl aQ (aa (aN dn (pv 5) aj) (aa (pv 2) (aa (pv 4) (aa (pv 1) af))))))) aC) (ag (aI (i:=6) b0.nd rfl (cj rfl) (bX (aa aq (aa aq (aa aq (aa aq (aa aq (aa aq (aa aq (aa aq (aa aq (aa aq af)))))))))))) (ag (aT (aw aY (pv 2) aq (az _)) (ai (aI (i:=6) b0.nd rfl (cj rfl) (bX (aa aq (aa aq (aa aq af)))))) aC) (ag (aI (i:=7) b0.nd rfl (cj rfl) (aX bJ (pv 6) (aN cB (aN dn (pv 5) aj) (aJ aM rfl M.cH bO (aa (pv 6) af))) (λ_ _=>rfl))) (ag (aI (i:=8) b0.nd rfl (cj rfl) (bX af)) (ag (dz PassesOwn.never rfl (dP rfl M.fO (aa (aJ dZ rfl M.cH bO (aa (aO fe hr.m rfl aQ (aa (pv 7) af)) af)) af)) (bb (i:=9) b0.nd rfl (cj rfl)) (ag (aI (i:=10) b0.nd rfl (cj rfl) (aN dN (pv 4) (bY uZ rfl M.BI tZ (aa (cG aY (pv 9) (aO bZ hr.m rfl aQ (aa (pv 7) af)) (az _)) af)))) (ai (dq (gg PySem.F.plainAttrs_list PySem.F.slot_list_append PySem.F.type_list_append dj (pv 8) (aa (aO jg hr.m rfl aQ (aa (pv 0) (aa (pv 1) (aa (aX sS (aO fe hr.m rfl aQ (aa (pv 7) af)) (pv 9) (λ_ _=>rfl)) (aa (aN iP (pv 3) aj) (aa (pv 10) af)))))) af)))))) (ai (aA (aN EO (bp (aa (pv 7) af)) (bY j7 rfl M.iB gk (aa (pv 8) af))))))))))))),?_⟩;try dsimp only[iF,cJ]
 refine Z_ ?_;intro _ _ _ _ _ _ _ _ _;rename_i N v9 v8 v7 v6 v5 v4 v3 v2;refine⟨_,rfl,_,rfl,p,_,_,_,rfl,rfl,aZ.of hp,aR (j:=0) rfl,a,ns,i,rfl,hS H (λb o _ h=>h),?_⟩;generalize cL ns i=c;refine⟨_,rfl,p,_,_,_,rfl,rfl,aZ.of hp,aR (j:=0) rfl,_,_,rfl,rfl,_,rfl,p,_,_,0,rfl,rfl,hp,rfl,?_⟩;show v3 N [some (.ref a),some (.ref p),some (.str want),some (.int (m:Nat)),some (.int (b:Nat)),some (.int c),none,none,none,none,none] (upd H p (.lst [V.int ((i+1:Nat):Int), .int left]));have sx1:bg p H (upd H p (.lst [V.int ((i+1:Nat):Int), .int left])):=bg.upd _;have G:(upd H p (.lst [V.int ((i+1:Nat):Int), .int left])) p=some (.lst [V.int ((i+1:Nat):Int), .int left]):=ah;generalize upd H p (.lst [V.int ((i+1:Nat):Int), .int left])=O at sx1 G⊢;have lfq:∀(r:V)(H':Hp),LfT p (decide (want="k")) b ((i+1:Nat):Int) left O r H'->Q r H':=λr H' o=>by obtain⟨d,jv,o1,W,o3,o4,o5,o6,o7,o8⟩:=o.ex;exact q r H' ⟨d,i+1,0,jv,sx1.trans o1,W,o3,o4,by omega,by omega,by omega, .inl rfl,o5,by omega,by omega,o8⟩
 have leaf:UH (Eo NL [] E0 (dv (Rw (rI WQ λi j=>V.int (i/j)) (Dh 5) (tC (V.int 4))) (dv (Dh 2) (dv (Dh 4) (dv (Dh 1) nE))))) {nx:=v4 N,rt:=N.rt} [some (.ref a),some (.ref p),some (.str want),some (.int (m:Nat)),some (.int (b:Nat)),some (.int c),none,none,none,none,none] O:=⟨_,rfl,_,_,rfl,rfl,⟨by decide,by decide⟩,_,rfl,_,rfl,_,rfl,c/4,want,b,p,_,left,rfl,G,l0,l1,by omega,hw,lfq⟩;refine⟨_,rfl,rfl,_,rfl,bL (λ_=>bj leaf) (λc1=>?_)⟩;refine⟨_,rfl,_,_,rfl,rfl,(by show(0:Int)<4;decide),rfl,_,rfl,bL (λ_=>bj leaf) (λc2=>?_)⟩;refine⟨_,rfl,p,_,_,_,rfl,rfl,aZ.of G,aR (j:=0) rfl,_,_,rfl,rfl,_,rfl,bL (λ_=>leaf) (λZ=>?_)⟩;have hm0:m≠0:=λe=>c1 (decide_eq_true (by rw[e];rfl));have abk:i+1<=63:=by have Z:¬(63:Int)<((i+1:Nat):Int):=of_decide_eq_false (Bool.eq_false_iff.mpr Z);omega
 clear leaf lfq c1 c2 Z;have rest:∀(pf:Addr)(g:List Str)(B:Hp),aE O B->B pf=some (.lst (g.map V.str))->0<g.length->g.length<=100->(∀y∈g,y∈kZ/\dY y=decide (want="k"))->v6 N [some (.ref a),some (.ref p),some (.str want),some (.int (m:Nat)),some (.int (b:Nat)),some (.int c),some (.ref pf),none,none,none,none] B:=by
  intro pf g B s2 HN Uq GW hfy;have f0:=Int.emod_nonneg (c/4) (show((g.length:Nat):Int)≠0 by omega);have f1:=Int.emod_lt_of_pos (c/4) (show(0:Int)<((g.length:Nat):Int)by omega);obtain⟨C,hki⟩:∃C:Nat,c/4%((g.length:Nat):Int)=(C:Int):=⟨(c/4%((g.length:Nat):Int)).toNat,by omega⟩;have NK:C<g.length:=by omega
  have VQ:(g.map V.str).length=g.length:=bD _;refine⟨_,rfl,_,rfl,_,_,rfl,rfl,⟨by decide,by decide⟩,_,rfl,pf,_,rfl, .inl (aZ.of HN),_,_,rfl,rfl,(by show(0:Int)<(((g.map V.str).length:Nat):Int);rw[VQ];omega),pf,_,_, .str g[C],rfl,rfl,aZ.of HN,(by rw[VQ,hki];exact aR (by rw[gs,zQ03 NK];rfl)),?_⟩;obtain⟨I,hxk⟩:=hfy g[C] (List.getElem_mem NK);generalize g[C]=x at I hxk⊢;clear f0 f1 hki NK VQ hfy Uq GW;have Xy:=List.all_eq_true.mp Kg x I;simp only[bF]at Xy;obtain⟨⟨R,g2⟩,g3,g4,g5⟩:=Xy;have R:=of_decide_eq_true R;have g5:=of_decide_eq_true g5;have hfo:=List.all_eq_true.mp sf x I;simp only[bF]at hfo;obtain⟨o1,W,o3,o4,_⟩:=hfo;have W:=of_decide_eq_true W;refine⟨(gu rfl),λpg ZK=>?_⟩;have t5:=ao ZK (.lst []);have h5:(upd B pg (.lst [])) pg=some (.lst []):=ah;have SE:pg≠p:=(ay (s2 _ _ G) ZK).symm;have Yg:=sx1.trans s2.x;have aaO:H pg=none:=by cases e:H pg with|none=>rfl|some o=>have :=Yg _ _ SE e;rw[ZK]at this;cases this
  generalize upd B pg (.lst [])=H5 at t5 h5⊢;have hdl:(bN x).length=(iV x).length:=by rw[R,bD];rfl
  refine⟨_,rfl,x,rfl,_,rfl,big (by omega),(((iV x).length:Nat):Int),rfl,(by show-(2^62)<=(((iV x).length:Nat):Int);omega),(by show(((iV x).length:Nat):Int)<2^62;omega),?_⟩;rw[show((((iV x).length:Nat):Int)).toNat=(iV x).length by omega];let SX:Nat->L2.St->Hp->Prop:=(λj a_ H'=>∃(ps:List KM.D)(us:List V)(k u:Nat)(l:Int)(kv uv:Option V),a_=[some (.ref a),some (.ref p),some (.str want),some (.int (m:Nat)),some (.int (b:Nat)),some (.int c),some (.ref pf),some (.str x),some (.ref pg),kv,uv]/\H' pg=some (.lst us)/\bK H' ps us/\ps.length=j/\(∀i p,ps[i]?=some p->∃dd:Str,(bN x)[i]?=some dd/\mZ (decide (dd="kind")) (b+ig x i) p)/\H' p=some (.lst [.int (k:Nat), .int l])/\0<=l/\l<=left/\bg p H H'/\i+1<=k/\k<=i+1+j+4*u/\i+1+u<=k/\i+1+u<=63/\aF ps<=31+(m-1)/\((aH ps:Nat):Int)+((i+1:Nat):Int)<=(k:Int)+(left-l));refine eA (iV x).length SX ?_ ?_ ?_;·refine⟨[],[],i+1,0,left,none,none,rfl,h5,rfl,rfl,λi p e=>by simp at e,t5 _ _ (s2 _ _ G),l0,Int.le_refl _,Yg.trans t5.x,zQ04 _,by omega,by omega,by omega,by simp[aF],?_⟩;simp[aH]
  ·rintro j a_ Y hj⟨ps,us,k,u,l,kv,uv,rfl,T,L,i5,i6,U,i8,i9,S,i12,i13,i14,i15,i17,i18⟩;refine⟨hj,?_⟩;rintro x' Zo⟨rfl,rfl⟩;have e0:(0:Int)+(j:Int)=((j:Nat):Int):=by omega
   rw[e0];have hjd:j<(bN x).length:=by omega
   have hcl:(iV x).cps.toList.length=(iV x).length:=rfl;obtain⟨ch,Ct⟩:∃ch,(iV x).cps.toList[j]?=some ch:=⟨_,zQ03 (by rw[hcl];exact hj)⟩;have YG:(bN x)[j]?=some (if ch=107 then Str.ofString "kind"else"term"):=by rw[R,gs,Ct];rfl
   have Tq:ch=107\/ch=116:=of_decide_eq_true (List.all_eq_true.mp g2 ch (m_ Ct));have Sy:((⟨#[ch]⟩:Str)="k"\/(⟨#[ch]⟩:Str)="t")/\decide ((⟨#[ch]⟩:Str)="k")=decide ((if ch=107 then Str.ofString "kind"else"term")="kind"):=by
    rcases Tq with rfl|rfl;·exact⟨.inl (by decide+kernel),by decide+kernel⟩
    ·exact⟨.inr (by decide+kernel),by decide+kernel⟩
   have V6:=Pg I j;rw[EV]at V6;have LP:=CH x j;refine⟨_,rfl,_,rfl,_,rfl,x,rfl,rfl, .inr ⟨_,rfl,_,_,rfl,rfl,?_⟩⟩;have eb:((b:Nat):Int)+(if decide (V.int ((j:Nat):Int)=V.int (pN x))=true then 1 else 0)=((b+ig x j:Nat):Int):=by
    by_cases e:((j:Nat):Int)=pN x;·rw[if_pos e]at V6;rw[if_pos (by rw[e];exact decide_eq_true rfl)];omega
    ·rw[if_neg e]at V6;rw[if_neg λh=>e (by have :=of_decide_eq_true h;injection this)];omega
   refine⟨_,rfl, .inl ⟨rfl,_,aZ.of T⟩,_,rfl,_,rfl,_,rfl,x,rfl,_,rfl,iV x,_,_,rfl,rfl,big (by omega),aR Ct,_,rfl,_,_,rfl,rfl,_,rfl,a,p,ns,⟨#[ch]⟩,m-1,k,b+ig x j,l,?_,by omega,λH' s=>hS H' (S.trans s),U,by omega,i8,by omega,by omega,Sy.1,λr F o=>?_⟩;·show[V.ref a,V.ref p,V.str ⟨#[ch]⟩,V.int ((m:Int)-1),V.int (((b:Nat):Int)+(if decide (V.int ((j:Nat):Int)=V.int (pN x))=true then 1 else 0))]=_;rw[eb,show(m:Int)-1=((m-1:Nat):Int)by omega]
   obtain⟨d,i',f',lf,y1,y2,y3,y4,y5,y6,y7,y8,y9,y11,y12,ZO⟩:=o.ex;have ntp:∀vs,Zo p≠some (.tup vs):=λvs z=>by rw[U]at z;cases z
   have Pa:=y1 _ _ SE T;have WH:us.length<=4:=by have :=L.length;omega
   have ntg:∀vs,F pg≠some (.tup vs):=λvs z=>by rw[Pa]at z;cases z
   refine⟨pg,_,_,rfl,rfl,Pa,Nat.lt_of_le_of_lt WH (by decide),?_⟩;have X:bg pg F (upd F pg (.lst (us++[r]))):=bg.upd _;have h13:(upd F pg (.lst (us++[r]))) pg=some (.lst (us++[r])):=ah;generalize upd F pg (.lst (us++[r]))=Zi at X h13⊢;have rps:bK Zi (ps++[d]) (us++[r]):=((L.d9 y1 ntp).snoc ZO).d9 X ntg;refine⟨ps++[d],us++[r],i',u+f',lf,_,_,rfl,h13,rps,by rw[cS,i5];rfl,λe p' v=>?_,X _ _ SE.symm y2,y3,by omega,λb o hb h=>X _ _ (ay h aaO) (y1 _ _ hb (S _ _ hb h)),by omega,by omega,by omega,?_,?_,?_⟩
   ·by_cases he:e<ps.length;·rw[List.getElem?_append_left he]at v;exact i6 e p' v
    ·rw[List.getElem?_append_right (by omega)]at v;have h0:e-ps.length=0:=by cases h:e-ps.length with|zero=>rfl|succ n=>rw[h]at v;simp at v
     rw[h0]at v;cases v;have hej:e=j:=by omega
     subst hej;exact⟨_,YG,by rw[<-Sy.2];exact y9⟩
   ·rcases y8 with y8|y8<;>omega
   ·rw[ja];exact Nat.max_le.mpr ⟨i17,y11⟩
   ·rw[jn];omega
  ·rintro a_ Y⟨ps,us,k,u,l,kv,uv,rfl,T,L,i5,i6,U,i8,i9,S,i12,i13,i14,i15,i17,i18⟩;refine⟨zQ04 _,?_⟩;have WH:us.length<=4:=by have :=L.length;omega
   refine⟨_,rfl,(gu rfl),λq1 CB=>?_⟩;have u1:=ao CB (.tup [V.str x]);have Wz:(upd Y q1 (.tup [V.str x])) q1=some (.tup [V.str x]):=ah;generalize upd Y q1 (.tup [V.str x])=K1 at u1 Wz⊢;refine⟨_,rfl,pg,_,rfl, .inl ⟨aZ.of (u1 _ _ T),λq2 JN=>?_⟩⟩;have u2:=ao JN (.tup us);refine⟨q1,q2,[.str x],us,rfl,rfl,u2 _ _ Wz,ah,big (by rw[List.length_singleton];omega),λq3 K3 u3 hq3=>?_⟩;have ZY:=u1.trans (u2.trans u3);have hG:=kS (b:=b) I (by omega) i6;rw[hxk]at hG;refine q _ _ ⟨.tup (.str x::ps),k,1+u,l,S.trans ZY.x,ZY _ _ U,i8,i9,i12,by omega,by omega, .inr (by omega),hG,?_,?_,⟨q3,_,rfl,hq3,_,_,rfl,⟨rfl,by omega⟩,L.mono ZY⟩⟩;·simp only[depth,aF];omega
   ·simp only[aD,aH];omega
 refine⟨(gu rfl),λp2 hV=>?_⟩;have t2:=ao hV (.lst (nB.map V.str));have h2:(upd O p2 (.lst (nB.map V.str))) p2=some (.lst (nB.map V.str)):=ah;refine⟨_,rfl,rfl,_,rfl,?_⟩;rw[sd];rcases hw with rfl|rfl;·rw[decide_eq_true rfl];refine bj ⟨(gu rfl),λp3 yL=>?_⟩;have t3:=ao yL (.lst (wQ.map V.str));exact rest p3 wQ _ (t2.trans t3) ah (by decide) (by decide) λy J=>⟨(E6 y J).1,by rw[(E6 y J).2,decide_eq_true rfl]⟩
 ·have nk:¬(Str.ofString "t"=Str.ofString "k"):=by decide+kernel
  rw[decide_eq_false nk];exact bR (rest p2 nB _ t2 h2 (by decide) (by decide) λy J=>⟨(E_ y J).1,by rw[(E_ y J).2,decide_eq_false nk]⟩)
theorem oY(D:Df K mg "_law_thing" ft P6)(M:Mg mg t)(b:bu P w K mg bx "_law_cell_at" (1) ["_law_script","_law_k"] (qS K))(c:bu P w K mg bx "_law_leaf" (131) ["_law_cell","_law_want","_law_over","_law_state"] NL)(a:bu P w K mg bx "_law_bound" (1) ["_law_word"] Bg)(d:bu P w K mg bx "_law_shape" (1) ["_law_word"] IM):∀n:Nat,bu P w K mg bx "_law_thing" (n+132) P6 (Nd K n)|0=>bu.never D λvs H Q E⟨_,_,_,_,_,_,_,_,_,h,_⟩=>absurd h (Nat.not_lt_zero _)|n+1=>xh D M b c a d (oY D M b c a d n)
end K57
end
section
namespace L3
open PySem PySem.Spec PyProof.Rows L2 KM
theorem Gh{X:Cx}(hh:X.A.handled=none):gm X (.builtin "min") (λxs H Q=>∃i j k:Int,xs=[.int i, .int j, .int k]/\∀m:Int,m<=i->m<=j->m<=k->(m=i\/m=j\/m=k)->Q (.int m) H):=by
 intro pins s σ H xs us Q I r h;obtain⟨i,j,k,rfl,q⟩:=h;cases r with
  |cons d r=>
   obtain⟨g,l,rfl,e,f⟩:=Vals.two r;obtain⟨n,rfl⟩:=(show∃t,_=Value.int i t from d);obtain⟨o,rfl⟩:=(show∃t,g=Value.int j t from e);obtain⟨p,rfl⟩:=(show∃t,l=Value.int k t from f);refine min_three_ints hh λh' tk b=>?_;by_cases c:j<i
   ·rw[if_pos c];by_cases a:k<j;·rw[if_pos a];exact⟨.int k,H,I.kept (h':=h') (t':=tk) b,⟨_,rfl⟩,q k (by lia) (by lia) (by lia) (.inr (.inr rfl))⟩
    ·rw[if_neg a];exact⟨.int j,H,I.kept (h':=h') (t':=tk) b,⟨_,rfl⟩,q j (by lia) (by lia) (by lia) (.inr (.inl rfl))⟩
   ·rw[if_neg c];by_cases a:k<i;·rw[if_pos a];exact⟨.int k,H,I.kept (h':=h') (t':=tk) b,⟨_,rfl⟩,q k (by lia) (by lia) (by lia) (.inr (.inr rfl))⟩
    ·rw[if_neg a];exact⟨.int i,H,I.kept (h':=h') (t':=tk) b,⟨_,rfl⟩,q i (by lia) (by lia) (by lia) (.inl rfl)⟩
end L3
end
section
namespace K57
open PySem L2 L3 KM PyProof.Rows
seal L2.PE L2.PS L2.kM L2.PT L2.PW L2.PA L2.PG L2.BA L2.PI L2.PC L2.PO L2.G0 L2.PK L3.Bc L3.J9 L3.LC L3.lH L3.Ui
variable{P:Program}{w:World}{K:PySem.W.Frag}{mg:Str->Option Value}{base:Heap}{t:Aq}
theorem JE:∀(n:Nat)(b:Int)(d:D)(z:Int),z∈bW n (b+1) d->0<=z/\z+1∈bW n b d
 |0,b,d,z,h=>absurd h zQ14
 |n+1,b,d,z,h=>by
  unfold bW at h⊢;split at h
  ·rename_i x ps he;injection he with he;subst he;split at h
   ·rename_i a;rw[if_pos a];split at h
    ·rename_i i;show 0<=z/\z+1∈if b<=i then[i-b]else[];split at h;·rename_i c;rw[List.mem_singleton.mp h,if_pos (by omega)];exact⟨by omega,List.mem_singleton.mpr (by omega)⟩
     ·exact absurd h zQ14
    ·exact absurd h zQ14
   ·rename_i a;rw[if_neg a];obtain⟨l,hl,e⟩:=List.mem_flatten.mp h;obtain⟨i,hi,rfl⟩:=List.mem_map.mp hl;rw[show b+1+tH x i=b+tH x i+1 by omega]at e;obtain⟨h1,h2⟩:=JE n _ _ z e;exact⟨h1,List.mem_flatten.mpr ⟨_,List.mem_map.mpr ⟨i,hi,rfl⟩,h2⟩⟩
  ·exact absurd h zQ14
theorem mZ.up{k:Bool}{b:Nat}{d:D}(g:mZ k b d):mZ k (b+1) d:=⟨g.wf,g.cm,g.nm,λn z a=>by obtain⟨h1,h2⟩:=JE n (b:Int) d z (by push_cast at a;exact a);have :=(g.fr n _ h2).2;omega⟩
theorem DY{b:Nat}{d e:D}(g:mZ false b d)(h:mZ false b e):mZ false b (.tup [.str "app",d,e]):=by
 have k:dY "app"=false:=by decide+kernel
 have ed:bN "app"=[Str.ofString "term","term"]:=by decide+kernel
 rw[<-k];refine kS (ps:=[d,e]) (by decide+kernel) (by rw[ed];rfl) λi p a=>?_;have hb:∀i,ig "app" i=0:=λi=>XD (by decide+kernel);rw[ed,hb];match i,a with|0,a=>cases a;exact⟨_,rfl,by rw[show decide (Str.ofString "term"=Str.ofString "kind")=false by decide+kernel];exact g⟩|1,a=>cases a;exact⟨_,rfl,by rw[show decide (Str.ofString "term"=Str.ofString "kind")=false by decide+kernel];exact h⟩|i+2,a=>simp at a
theorem QL{b:Nat}{d:D}(g:mZ false b d):mZ false b (.tup [.str "fun",nu,d]):=by
 have k:dY "fun"=false:=by decide+kernel
 have ed:bN "fun"=[Str.ofString "kind","term"]:=by decide+kernel
 rw[<-k];refine kS (ps:=[nu,d]) (by decide+kernel) (by rw[ed];rfl) λi p a=>?_;rw[ed];match i,a with|0,a=>cases a;exact⟨_,rfl,by rw[show decide (Str.ofString "kind"=Str.ofString "kind")=true by decide+kernel];exact mL yI (by decide+kernel) (by decide+kernel) (by decide+kernel)⟩|1,a=>cases a;exact⟨_,rfl,by rw[show decide (Str.ofString "term"=Str.ofString "kind")=false by decide+kernel,show ig "fun" 1=1 by decide+kernel];exact g.up⟩|i+2,a=>simp at a
def Xo:Sp:=λvs H Q _=>∃(d:D)(v:V)(want:Str)(c:Int),vs=[v, .str want, .int c]/\Rep H d v/\(want="k"\/want="t")/\mZ (decide (want="k")) 0 d/\depth d<=36/\aD d<=400/\∀(d':D)(a:V)(H':Hp),aE H H'->Rep H' d' a->mZ (decide (want="k")) 0 d'->depth d'<=40->aD d'<=600->Q a H'
theorem dQ:aG ["_law_thing_here","_law_want","_law_cell","_law_k"] ["_law_thing_here","_law_want","_law_cell"] (ak ip):=⟨rfl,rfl,rfl,by decide+kernel,rfl,by decide+kernel,by decide+kernel⟩
theorem DK(D:Df K mg "_law_more" ip ["_law_thing_here","_law_want","_law_cell"])(M:Mg mg t)(iy:bu P w K mg bx "_law_deep" (191) ["_law_thing_here"] (Mc 60))(gw:bu P w K mg bx "_law_knots" (61) ["_law_thing_here"] (NN 60)):bu P w K mg bx "_law_more" (192) ["_law_thing_here","_law_want","_law_cell"] Xo:=by
 refine D.ok dQ (λvs H Q E h=>?_) (λbase f bS A outer s H vs Q E hr h=>?_);·obtain⟨d,v,want,c,rfl,_⟩:=h;rfl
 obtain⟨d,v,want,c,rfl,r,hw,g,hd,hk,q⟩:=h;have hh:=hr.hd (by omega);refine⟨_,(ag (aT (L2.PW.pt (sR (aw aY (pv 1) aq (az _)) (kX (aw aY (aN cB (pv 2) aj) aj (az _))))) (ag (aI (i:=0) dQ.nd rfl (cj rfl) (bp (aa aq (aa (pv 0) (aa (bp (aa aq (aa (aN cB (aN dn (pv 2) aj) aj) af))) af))))) (ai (dz PassesOwn.never rfl (dP rfl M.fO (aa (aJ (Gh hh) rfl M.Of IS (aa (aN dN aj (aN cB (aN dn (pv 2) aj) aj)) (aa (aN iP aj (aO iy hr.m rfl aQ (aa (pv 0) af))) (aa (aN dn (aN iP aj (aO gw hr.m rfl aQ (aa (pv 0) af))) aj) af)))) af)) (bb (i:=3) dQ.nd rfl (cj rfl)) (ai (aI (i:=0) dQ.nd rfl (cj rfl) (bp (aa aq (aa (bp (aa aq af)) (aa (pv 0) af))))))))) aC) (ag (aT (L2.PW.pt (sR (aw aY (pv 1) aq (az _)) (kX (aw aY (aN cB (pv 2) aj) aj (az _))))) (ai (dz PassesOwn.never rfl (dP rfl M.fO (aa (aN cB (aN dn (pv 2) aj) aj) af)) (bb (i:=3) dQ.nd rfl (cj rfl)) (ai (aT (L2.PW.pt (sR (aw BJ (aO iy hr.m rfl aQ (aa (pv 0) af)) aj (az _)) (kX (aw E5 (aO gw hr.m rfl aQ (aa (pv 0) af)) aj (az _))))) (ai (aI (i:=0) dQ.nd rfl (cj rfl) (bp (aa aq (aa (pv 0) (aa (pv 0) af)))))) aC)))) aC) (ai (aA (pv 0))))),?_⟩;try dsimp only[iF,cJ]
 refine CK ?_;intro _ _ _;rename_i D0 v3 v2;have N:∀{d:KM.D},mZ false 0 d->Wf d:=λg=>⟨_,g.wf⟩;have second:∀(d':KM.D)(k:V)(kv:Option V)(H':Hp),aE H H'->Rep H' d' k->mZ (decide (want="k")) 0 d'->depth d'<=40->aD d'<=600->v2 D0 [some k,some (.str want),some (.int c),kv] H':=by
  intro d' k kv G s1 C J I T;refine⟨_,rfl,rfl,_,rfl,?_⟩;rw[sd];rcases hw with rfl|rfl;·rw[decide_eq_false (show¬(Str.ofString "k"=Str.ofString "t")by decide+kernel)];exact bR ⟨_,rfl,q d' k G s1 C J I T⟩
  rw[decide_eq_true rfl];have U:¬(Str.ofString "t"=Str.ofString "k"):=by decide+kernel
  rw[decide_eq_false U]at J q;refine bj ⟨_,rfl,_,_,rfl,rfl,(by show(0:Int)<5;decide),rfl,_,rfl,bL (λ_=>?_) (λ_=>⟨_,rfl,q d' k G s1 C J I T⟩)⟩;have x0:=Int.emod_nonneg (c/5) (show(4:Int)≠0 by decide);have x1:=Int.emod_lt_of_pos (c/5) (show(0:Int)<4 by decide);refine⟨_,rfl,_,_,rfl,rfl,⟨by decide,by decide⟩,_,_,rfl,rfl,(by show(0:Int)<4;decide),_,rfl,(by show-(2^62)<=c/5%4;omega),(by show c/5%4<2^62;omega),?_⟩;refine eA (c/5%4).toNat (λj x H'=>∃(d':KM.D)(k:V)(kv:Option V),x=[some k,some (.str "t"),some (.int c),kv]/\aE H H'/\Rep H' d' k/\mZ false 0 d'/\depth d'<=40/\aD d'<=600) ⟨d',k,kv,rfl,s1,C,J,I,T⟩ ?_ ?_;·rintro j x O hj⟨e,u,kv,rfl,s2,b,a,y,z⟩;refine⟨hj,?_⟩;rintro x' H3⟨rfl,rfl⟩;refine⟨_,rfl,e,u,rfl,b,N a,by omega,λH4 o=>⟨_,_,rfl,rfl,_,rfl,?_⟩⟩;have s24:=s2.trans o;refine bL (λc1=>?_) (λ_=>⟨e,u,_,rfl,s24,b.mono o,a,y,z⟩);have c1:((depth e:Nat):Int)<40:=of_decide_eq_true c1;refine⟨_,rfl,e,u,rfl,b.mono o,N a,by omega,by omega,λR F=>⟨_,_,rfl,rfl,_,rfl,?_⟩⟩;have X4:=s24.trans F;have n:=(b.mono o).mono F;refine bL (λc2=>?_) (λ_=>⟨e,u,_,rfl,X4,n,a,y,z⟩);have c2:((aD e:Nat):Int)<=280:=of_decide_eq_true c2;refine⟨_,rfl,_,rfl,(gu rfl),λp hp=>?_⟩;have Z:=ao hp (.tup [V.str "app",u,u]);exact⟨.tup [.str "app",e,e], .ref p,_,rfl,X4.trans Z,fU ah (by decide+kernel) ⟨_,_,rfl,n.mono Z,_,_,rfl,n.mono Z,rfl⟩,DY a a,by simp only[depth,aF];omega,by simp only[aD,aH];omega⟩
  ·rintro x O⟨e,u,kv,rfl,s2,b,a,y,z⟩;exact⟨zQ04 _,_,rfl,q e u O s2 b a y z⟩
 refine⟨_,rfl,rfl,_,rfl,?_⟩;rw[sd];rcases hw with rfl|rfl;·rw[decide_eq_false (show¬(Str.ofString "k"=Str.ofString "t")by decide+kernel)];exact bR (second d v none H (aE.refl H) r g (by omega) (by omega))
 rw[decide_eq_true rfl];have U:¬(Str.ofString "t"=Str.ofString "k"):=by decide+kernel
 rw[decide_eq_false U]at g second;refine bj ⟨_,rfl,_,_,rfl,rfl,(by show(0:Int)<5;decide),rfl,_,rfl,bL (λ_=>?_) (λ_=>second d v none H (aE.refl H) r g (by omega) (by omega))⟩;have x0:=Int.emod_nonneg (c/75) (show(36:Int)≠0 by decide);have x1:=Int.emod_lt_of_pos (c/75) (show(0:Int)<36 by decide);refine⟨_,rfl,_,rfl,_,_,rfl,rfl,⟨by decide,by decide⟩,_,_,rfl,rfl,(by show(0:Int)<36;decide),(gu rfl),λB jS=>⟨(gu rfl),λW hV=>?_⟩⟩;have Y:=ao jS (.tup [V.str "var", .int (c/75%36)]);have rv:Rep (upd H B (.tup [V.str "var", .int (c/75%36)])) (.tup [.str "var", .int (c/75%36)]) (.ref B):=fU ah (by decide+kernel) ⟨_,_,rfl,rfl,rfl⟩;have C:=r.mono Y;generalize upd H B (.tup [V.str "var", .int (c/75%36)])=G at Y rv C hV⊢;have L:=ao hV (.tup [V.str "app",v, .ref B]);have b:Rep (upd G W (.tup [V.str "app",v, .ref B])) (.tup [.str "app",d, .tup [.str "var", .int (c/75%36)]]) (.ref W):=fU ah (by decide+kernel) ⟨_,_,rfl,C.mono L,_,_,rfl,rv.mono L,rfl⟩;generalize upd G W (.tup [V.str "app",v, .ref B])=O at L b⊢;have s2:=Y.trans L;have a:mZ false 0 (.tup [.str "app",d, .tup [.str "var", .int (c/75%36)]]):=DY g (wV x0 (by omega) (by omega));have y:depth (.tup [.str "app",d, .tup [.str "var", .int (c/75%36)]])<=37:=by simp only[depth,aF];omega
 have I:1<=depth (.tup [.str "app",d, .tup [.str "var", .int (c/75%36)]]):=by simp only[depth,aF];omega
 have z:aD (.tup [.str "app",d, .tup [.str "var", .int (c/75%36)]])<=402:=by simp only[aD,aH];omega
 generalize KM.D.tup [.str "app",d, .tup [.str "var", .int (c/75%36)]]=l at b a I y z;have y0:=Int.emod_nonneg (c/5) (show(15:Int)≠0 by decide);have y1:=Int.emod_lt_of_pos (c/5) (show(0:Int)<15 by decide);refine⟨_,rfl,_,_,rfl,rfl,⟨by decide,by decide⟩,_,_,rfl,rfl,(by show(0:Int)<15;decide),_,_,rfl,rfl,?_⟩;refine⟨_,rfl,l,_,rfl,b,N a,by omega,λH3 X=>⟨_,_,rfl,rfl,?_⟩⟩;refine⟨_,rfl,l,_,rfl,b.mono X,N a,by omega,by omega,λH4 o=>⟨_,_,rfl,rfl,_,_,rfl,rfl,⟨by decide,by decide⟩,_,_,_,rfl,λm m1 m2 m3 m4=>?_⟩⟩;have m2:m<=40-((depth l:Nat):Int):=m2;have m3:m<=(598-((aD l:Nat):Int))/2:=m3;have m1:m<=20+c/5%15:=m1;have m0:0<=m:=by have m4:m=20+c/5%15\/m=40-((depth l:Nat):Int)\/m=(598-((aD l:Nat):Int))/2:=m4;omega
 refine⟨m,rfl,(by show-(2^62)<=m;omega),(by show m<2^62;omega),?_⟩;refine eA m.toNat (λj x H'=>∃(d':KM.D)(k:V)(kv:Option V),x=[some k,some (.str "t"),some (.int c),kv]/\aE H H'/\Rep H' d' k/\mZ false 0 d'/\depth d'<=depth l+j/\aD d'<=aD l+2*j) ⟨l,_,none,rfl,s2.trans (X.trans o),(b.mono X).mono o,a,by omega,by omega⟩ ?_ ?_;·rintro j x R hj⟨e,u,kv,rfl,F,n,S,hd5,hk5⟩;refine⟨hj,?_⟩;rintro x' H6⟨rfl,rfl⟩;refine⟨(gu rfl),λq1 CB=>⟨_,rfl,(gu rfl),λq2 JN=>?_⟩⟩;have u1:=ao CB (.tup [V.str "nat"]);have u2:=ao JN (.tup [V.str "fun", .ref q1,u]);have rn0:Rep (upd H6 q1 (.tup [V.str "nat"])) nu (.ref q1):=fU ah (by decide+kernel) rfl;have rn:=rn0.mono u2;exact⟨.tup [.str "fun",nu,e], .ref q2,_,rfl,F.trans (u1.trans u2),fU ah (by decide+kernel) ⟨_,_,rfl,rn,_,_,rfl,n.mono (u1.trans u2),rfl⟩,QL S,by simp only[nu,depth,aF];omega,by simp only[nu,aD,aH];omega⟩
 ·rintro x R⟨e,u,kv,rfl,F,n,S,hd5,hk5⟩;exact⟨zQ04 _,second e u kv R F n S (by omega) (by omega)⟩
noncomputable def pM:Str:="abcdefghijklmnopqrstuvwxyz"
noncomputable def LF(i:Nat):Str:=⟨#[97+i]⟩
noncomputable def qN(k:Nat):Str:="q"++LF (k%26)++LF (k/26)
noncomputable def wA:List Str:=(List.range 26).map LF++(List.range 26).map λi=>"a"++LF i
theorem C0:∀i:Nat,i<26->pM.cps[i]?=some (97+i):=by decide+kernel
theorem qh:pM.cps.size=26:=by decide+kernel
theorem X9:((List.range 38).all λk=>isNm (qN k)&&decide (qN k∉six))=true:=by decide+kernel
theorem aaf:((List.range 38).map qN).Nodup:=by decide+kernel
theorem UZ:(wA.all λz=>isNm z)=true:=by decide+kernel
theorem U9:wA.Nodup:=by decide+kernel
theorem S0:38<=(wA.filter λz=>decide (z∉six)).length:=by decide+kernel
theorem K5{i:Nat}(h:i<26):lJ pM.cps.toList ((i:Nat):Int)=some (97+i):=aR (by rw[Array.getElem?_toList];exact C0 i h)
theorem QY(F:List Str):∀(W:List Str),(List.range W.length).filterMap (λi=>if(W[i]?).getD Str.empty∉F then some (V.str ((W[i]?).getD Str.empty))else none)=(W.filter λz=>decide (z∉F)).map V.str:=by intro W;induction W with|nil=>rfl|cons z W a=>rw[b_,List.range_succ_eq_map,mI,List.filterMap_map];have e:((λi=>if((z::W)[i]?).getD Str.empty∉F then some (V.str (((z::W)[i]?).getD Str.empty))else none)∘Nat.succ)=λi=>if(W[i]?).getD Str.empty∉F then some (V.str ((W[i]?).getD Str.empty))else none:=rfl;rw[e,a];by_cases c:z∈F<;>simp[c]
theorem Nw(z:Str)(F:List Str):O7 (.str z) (F.map V.str)=decide (z∈F):=lL z F
theorem JJ{F:List Str}(b:∀z,z∈F->z∈six)(W:List Str):(W.filter λz=>decide (z∉six)).length<=(W.filter λz=>decide (z∉F)).length:=by
 induction W with
  |nil=>exact zQ04 _
  |cons z W d=>
   by_cases c:z∈six
   ·rw[List.filter_cons_of_neg (by simp[c])];exact cw d (by
     by_cases a:z∈F;·rw[List.filter_cons_of_neg (by simp[a])];exact zQ04 _
     ·rw[List.filter_cons_of_pos (by simp[a]),b_];omega)
   ·have a:z∉F:=λh=>c (b z h);rw[List.filter_cons_of_pos (by simp[c]),List.filter_cons_of_pos (by simp[a]),b_,b_];omega
def Ym:Sp:=λvs H Q _=>∃(m:Nat)(b:Int)(kp:Addr)(F:List Str),vs=[.int (m:Nat), .int b, .ref kp]/\m<=38/\(b=0\/b=1)/\H kp=some (.lst (F.map V.str))/\(∀z,z∈F->z∈six)/\∀(a:Addr)(N:List Str)(H':Hp),aE H H'->H' a=some (.lst (N.map V.str))->H a=none->N.length=m->N.Nodup->(∀z,z∈N->isNm z=true/\z∉F)->Q (.ref a) H'
theorem fH:aG ["_law_many","_law_far","_law_kept_here","_law_some","_law_words"] ["_law_many","_law_far","_law_kept_here"] (ak cy):=⟨rfl,rfl,rfl,by decide+kernel,rfl,by decide+kernel,by decide+kernel⟩
theorem Cb(D:Df K mg "_law_names" cy ["_law_many","_law_far","_law_kept_here"])(M:Mg mg t):bu P w K mg bx "_law_names" (131) ["_law_many","_law_far","_law_kept_here"] Ym:=by
 refine D.ok fH (λvs H Q E h=>?_) (λbase f bS A outer s H vs Q E hr h=>?_);·obtain⟨m,u,kp,F,rfl,_⟩:=h;rfl
 obtain⟨m,u,kp,F,rfl,hm,hf,hk,hF,q⟩:=h;have hu:=vy hr;refine⟨_,(ag (aI (i:=3) fH.nd rfl (cj rfl) aq) (ag (M7 (ix:=4) (N':=["_law_k","_law_some"]) (own:=1) (fr:=[3]) fH.nd rfl rfl rfl (fY (N:=["_law_many","_law_far","_law_kept_here","_law_some","_law_words"]) (sc:=ak cy) rfl rfl rfl (by decide+kernel)) (dP rfl M.fO (aa (pv 0) af)) (cU (by decide)) (λ_ _ _=>(bb (i:=0) (show List.Nodup (["_law_k","_law_some"]:List Str)by decide+kernel) rfl (Or.inl rfl))) (λ_ _ _=>gH) (λ_ _ _=>(aN eK (aN eK aq (aX sS (pv 1) (aN cB (pv 0) aj) (λ_ _=>rfl))) (aX sS (pv 1) (aN dn (pv 0) aj) (λ_ _=>rfl))))) (ag (aT (aw aY (pv 1) aj (az _)) (ai (aI (i:=4) fH.nd rfl (cj rfl) (aN CW (eO (N':=["_law_sign"]) (own:=1) (fr:=[]) rfl (fY (N:=["_law_many","_law_far","_law_kept_here","_law_some","_law_words"]) (sc:=ak cy) rfl rfl rfl (by decide+kernel)) (z9 (pv 3)) (cU (by decide)) (λ_ _ _=>(bb (i:=0) (show List.Nodup (["_law_sign"]:List Str)by decide+kernel) rfl (Or.inl rfl))) (λ_ _ _=>gH) (λ_ _ _=>(pv 0))) (eO (N':=["_law_sign"]) (own:=1) (fr:=[]) rfl (fY (N:=["_law_many","_law_far","_law_kept_here","_law_some","_law_words"]) (sc:=ak cy) rfl rfl rfl (by decide+kernel)) (z9 (pv 3)) (cU (by decide)) (λ_ _ _=>(bb (i:=0) (show List.Nodup (["_law_sign"]:List Str)by decide+kernel) rfl (Or.inl rfl))) (λ_ _ _=>gH) (λ_ _ _=>(aN eK aq (pv 0))))))) aC) (ai (aA (eX qd (eO (N':=["_law_word","_law_kept_here"]) (own:=1) (fr:=[2]) rfl (fY (N:=["_law_many","_law_far","_law_kept_here","_law_some","_law_words"]) (sc:=ak cy) rfl rfl rfl (by decide+kernel)) (iC (pv 4)) (cU (by decide)) (λ_ _ _=>(bb (i:=0) (show List.Nodup (["_law_word","_law_kept_here"]:List Str)by decide+kernel) rfl (Or.inl rfl))) (λ_ _ _=>(ye (aw (uq (K:=K)) (pv 0) (pv 1) rfl))) (λ_ _ _=>(pv 0))) fK (eT (pv 0)))))))),?_⟩;try dsimp only[iF,cJ]
 refine pq ?_;intro _ _ _ _;rename_i L v4 v3 v2;have rest:∀(pw:Addr)(W:List Str)(j:Hp),aE H j->j pw=some (.lst (W.map V.str))->W.length<=100->W.Nodup->(∀z,z∈W->isNm z=true)->m<=(W.filter λz=>decide (z∉six)).length->v4 L [some (.int (m:Nat)),some (.int u),some (.ref kp),some (.str pM),some (.ref pw)] j:=by
  intro pw W j s1 o hl HQ oZ hlen;have OZ:=s1 _ _ hk;refine⟨_,rfl,pw,rfl,⟨_,aZ.of o⟩,λl n=>?_⟩;refine B6 W.length (λi=>if(W[i]?).getD Str.empty∉F then some (V.str ((W[i]?).getD Str.empty))else none) n (big (by omega)) (λi e hi s2=>?_) λe s2 h2=>?_
  ·obtain⟨z,a⟩:∃z,W[i]?=some z:=⟨_,zQ03 hi⟩;have hq:aZ K e pw (W.map V.str):=aZ.of (s2 _ _ o);have C:(W.map V.str)[i]?=some (.str z):=by rw[gs,a];rfl
   refine⟨⟨_,_,hq,C⟩,?_⟩;rintro r g⟨rfl,hy⟩R R0 d v;have B:=hy _ hq;rw[C]at B;cases B;rw[a]at d v;refine⟨_,rfl,_,rfl,kp,_,rfl, .inl (aZ.of (s2 _ _ OZ)),rfl,?_,_,rfl,?_⟩;·rw[List.all_map];exact List.all_eq_true.mpr λ_ _=>rfl
   show if(!O7 (.str z) (F.map V.str))=true then _ else _;rw[Nw];by_cases c:z∈F;·rw[decide_eq_true c];exact bR (v g (by rw[Option.getD_some,if_neg (λh=>h c)]) (aE.refl _))
   ·rw[decide_eq_false c];exact bj ⟨_,rfl,d _ g (by rw[Option.getD_some,if_pos c]) (aE.refl _)⟩
  ·rw[QY]at h2;refine⟨⟨_,aZ.of (s2 _ _ o),by rw[bD];exact zQ04 _⟩,_,rfl,_,rfl,l,_,rfl,aZ.of h2,λp3 x=>?_⟩;rw[Ea,<-List.map_take];have t3:=ao x (.lst (((W.filter λz=>decide (z∉F)).take m).map V.str));have l1:=JJ hF W;refine q p3 ((W.filter λz=>decide (z∉F)).take m) _ (s1.trans (s2.trans t3)) ah (s1.free (s2.free x)) (by rw[jx];omega) ((List.take_sublist _ _).nodup (HQ.filter _)) λz a=>?_;have a:=List.mem_filter.mp (tR a);exact⟨oZ z a.1,of_decide_eq_true a.2⟩
 have h26:(26:Int)≠0:=by decide
 refine⟨_,rfl,(m:Int),rfl,(by show-(2^62)<=((m:Nat):Int);omega),(by show((m:Nat):Int)<2^62;omega),λG jS=>?_⟩;rw[show(((m:Nat):Int)).toNat=m by omega];refine eG m (λk=>V.str (qN k)) jS (big (by omega)) (λk e b s2=>⟨b,?_⟩) λe s2 h2=>⟨zQ04 _,?_⟩
 ·rintro r g⟨rfl,rfl⟩R d;have Y:(0:Int)+(k:Int)=((k:Nat):Int):=by omega
  rw[Y];have U:=K5 (i:=k%26) (by omega);have X:=K5 (i:=k/26) (by omega);refine⟨_,rfl,_,rfl,_,_,rfl,rfl,(by show(0:Int)<26;decide),pM,_,_,rfl,rfl,(by decide+kernel),(by rw[show((k:Nat):Int)%26=((k%26:Nat):Int)by omega];exact U),_,_,rfl,rfl,(by show 1+1<=sizeLine;decide),?_⟩;refine⟨_,rfl,_,rfl,_,_,rfl,rfl,⟨by decide,by decide⟩,pM,_,_,rfl,rfl,(by decide+kernel),(by rw[show((k:Nat):Int)/26=((k/26:Nat):Int)by omega];exact X),_,_,rfl,rfl,(by show 2+1<=sizeLine;decide),d g (aE.refl _)⟩
 have Z:e G=some (.lst (((List.range m).map qN).map V.str)):=by rw[h2,List.map_map];rfl
 refine⟨_,rfl,rfl,_,rfl,?_⟩;rcases hf.symm with rfl|rfl
 ·refine bR (rest G ((List.range m).map qN) e s2 Z (by rw[bD,List.length_range];omega) ?_ ?_ ?_)
  ·have :((List.range m).map qN).Sublist ((List.range 38).map qN):=by rw[show(List.range m)=(List.range 38).take m by rw[List.take_range];congr 1;omega,List.map_take];exact List.take_sublist _ _
   exact this.nodup aaf
  ·intro z a;obtain⟨k,b,rfl⟩:=List.mem_map.mp a;have :=List.all_eq_true.mp X9 k (List.mem_range.mpr (by have :=List.mem_range.mp b;omega));rw[bF]at this;exact this.1
  ·rw[List.filter_eq_self.mpr λz a=>?_,bD,List.length_range];·exact zQ04 _
   obtain⟨k,b,rfl⟩:=List.mem_map.mp a;have :=List.all_eq_true.mp X9 k (List.mem_range.mpr (by have :=List.mem_range.mp b;omega));rw[bF]at this;exact this.2
 ·refine bj ⟨_,rfl,pM,rfl,λl n=>?_⟩;refine eG 26 (λi=>V.str (LF i)) n (by decide) (λk g b J=>⟨by show k<pM.cps.size;rw[qh];exact b,?_⟩) λg J h3=>⟨by show pM.cps.size<=26;rw[qh];exact zQ04 _,?_⟩;·rintro r O⟨rfl,ch,hc,rfl⟩R d;rw[C0 k b]at hc;cases hc;exact⟨_,rfl,d O (aE.refl _)⟩
  refine⟨_,rfl,pM,rfl,λI y=>?_⟩;refine eG 26 (λi=>V.str ("a"++LF i)) y (by decide) (λk S b p=>⟨by show k<pM.cps.size;rw[qh];exact b,?_⟩) λS p h5=>⟨by show pM.cps.size<=26;rw[qh];exact zQ04 _,?_⟩;·rintro r T⟨rfl,ch,hc,rfl⟩R d;rw[C0 k b]at hc;cases hc;exact⟨_,rfl,_,_,rfl,rfl,(by show 1+1<=sizeLine;decide),d T (aE.refl _)⟩
  have n24:l≠I:=ay h3 y;refine⟨l,I,_,_,rfl,rfl,p _ _ h3,h5,(by rw[bD,bD,List.length_range];decide),λp6 Ux=>?_⟩;have t6:=ao Ux (.lst ((List.range 26).map (λi=>V.str (LF i))++(List.range 26).map λi=>V.str ("a"++LF i)));refine rest p6 wA _ (s2.trans (J.trans (p.trans t6))) ?_ (by decide+kernel) U9 (λz a=>List.all_eq_true.mp UZ z a) (cw hm S0);rw[ah];show _=some (HO.lst (((List.range 26).map LF++(List.range 26).map λi=>"a"++LF i).map V.str));rw[eW,List.map_map,List.map_map];rfl
theorem MU(s:List (List Nat)×List Nat)(c:Nat):(gX (gF s c).1 (gF s c).2).length<=(gX s.1 s.2).length+1:=by
 unfold gF;by_cases h1:c=40\/c=41
 ·have hb:brk c=true:=by rcases h1 with rfl|rfl<;>decide
  rw[if_pos h1,if_pos hb];show(gX s.1 s.2++[[c]]).length<=_;rw[cS];exact zQ04 _
 ·rw[if_neg h1];by_cases hb:brk c=true;·rw[if_pos hb,if_pos hb];show(gX s.1 s.2).length<=_;omega
  ·rw[if_neg hb,if_neg hb];have :s.1.length<=(gX s.1 s.2).length:=by unfold gX;split<;>simp
   show(gX s.1 (s.2++[c])).length<=_;conv=>lhs;unfold gX
   rw[if_neg (by simp),cS];simp;omega
theorem FI:∀(l:List Nat)(s:List (List Nat)×List Nat),(gX (l.foldl gF s).1 (l.foldl gF s).2).length<=(gX s.1 s.2).length+l.length|[],s=>zQ04 _|c::l,s=>by have h1:=FI l (gF s c);have h2:=MU s c;rw[List.foldl_cons,b_];omega
theorem MV(l:List Nat):(cP l).length<=l.length:=by rw[<-RA];have :=FI l ([],[]);simpa[gX]using this
theorem aaH(l:List Nat):(tx l).length=l.length:=by rw[str_len];rfl
theorem zt{N G:Addr}{H:Hp}{Q:VK}{E:XK}{T dd:Str}{b:Addr}{names:List Str}{k:Bool}{d:D}(hT:T.length<=50000)(hb:H b=some (.lst (names.map V.str)))(hn:names.length<=1000)(a:He names k d (wS T.cps.toList))(c:k=decide (dd="kind"))(hd:depth d<=40)(f:aD d<=600)(q:∀(v:V)(H':Hp),aE H H'->Rep H' d v->Q v H'):Hi dd K N G [.str T, .ref b] H Q E:=by
 have hr:oy names dd (wS T.cps.toList)=some d:=by have h:=a.rd names (LJ dd) [] {LJ dd with parts:=[d]} [] rfl (tk (dd:=dd) (by rfl) (by rw[a.kd,c]));rw[eF]at h;unfold oy;show outD (K57.rd names (wS T.cps.toList) [LJ dd])=_;rw[h];rfl
 have hw:=MV T.cps.toList;have g:=str_len T;refine⟨T,b,rfl,T,dd,b,names,rfl,by omega,hb,hn,by omega,λl h=>?_,λe=>?_,λd' e=>?_⟩;·have :=a.wd (tx l) (List.mem_map.mpr ⟨l,h,rfl⟩);rw[aaH]at this;omega
 ·rw[show(cP T.cps.toList).map tx=wS T.cps.toList from rfl,hr]at e;cases e
 ·rw[show(cP T.cps.toList).map tx=wS T.cps.toList from rfl,hr]at e;cases e;have hv:iU d=false:=by unfold iU;rw[decide_eq_true f,decide_eq_true hd];rfl
  exact⟨⟨⟨_,a.wf⟩,by omega,by omega⟩,λv H' s r _=>q v H' s r,λH' s h=>by have h:iU d=true:=h;rw[hv]at h;cases h⟩
def Xd(K:PySem.W.Frag):Sp:=λvs H Q _=>∃(T want:Str)(b:Addr)(names:List Str)(d:D),vs=[.str T, .str want, .ref b]/\(want="k"\/want="t")/\T.length<=50000/\H b=some (.lst (names.map V.str))/\names.length<=1000/\He names (decide (want="k")) d (wS T.cps.toList)/\depth d<=40/\aD d<=600/\∀(v:V)(H':Hp),aE H H'->Rep H' d v->Q v H'
theorem BZ:aG ["_law_line","_law_want","_law_names_here"] ["_law_line","_law_want","_law_names_here"] (ak iQ):=⟨rfl,rfl,rfl,by decide+kernel,rfl,by decide+kernel,by decide+kernel⟩
theorem CD(D:Df K mg "_law_read" iQ ["_law_line","_law_want","_law_names_here"])(M:Mg mg t)(g:bu P w K mg (gO P w) "read_term" (67) ["text","names"] (Hi "term" K t.bc t.gJ))(e:bu P w K mg (gO P w) "read_kind" (67) ["text","names"] (Hi "kind" K t.bc t.gJ)):bu P w K mg bx "_law_read" (131) ["_law_line","_law_want","_law_names_here"] (Xd K):=by
 refine D.ok BZ (λvs H Q E h=>?_) (λbase f bS A outer s H vs Q E hr h=>?_);·obtain⟨T,want,b,names,d,rfl,_⟩:=h;rfl
 obtain⟨T,want,b,names,d,rfl,hw,hT,hb,hn,a,hd,c,q⟩:=h;refine⟨_,(ag (aT (aw aY (pv 1) aq (az _)) (ai (aA (aO e hr.m rfl sD (aa (pv 0) (aa (pv 2) af))))) aC) (ai (aA (aO g hr.m rfl sD (aa (pv 0) (aa (pv 2) af)))))),?_⟩;try dsimp only[iF,i]
 refine vX ?_;intro _ _;refine⟨_,rfl,rfl,_,rfl,?_⟩;rw[sd];rcases hw with rfl|rfl;·rw[decide_eq_true rfl]at a⊢;exact bj ⟨_,rfl,_,rfl,zt hT hb hn a (by decide+kernel) hd c q⟩
 ·rw[decide_eq_false (show¬(Str.ofString "t"=Str.ofString "k")by decide+kernel)]at a⊢;exact bR ⟨_,rfl,_,rfl,zt hT hb hn a (by decide+kernel) hd c q⟩
theorem Fz:∀(n:Nat)(b:Int)(d:D)(k:Bool),dC aS k d=true->(bW n b d).length<=aD d
 |0,b,d,k,wf=>by unfold bW;simp
 |n+1,b,d,k,wf=>by
  obtain⟨x,ps,rfl⟩:=eN wf;by_cases c:x="var"
  ·subst c;unfold bW;rw[if_pos rfl,(cc wf).1];split;·split<;>simp
   ·simp
  ·have e:bW (n+1) b (.tup (.str x::ps))=((List.range (av x ps).length).map λi=>bW n (b+tH x i) (((av x ps)[i]?).getD .bA)).flatten:=by
    conv=>lhs;unfold bW
    exact if_neg c
   rw[e,(cc wf).1];have j:∀(l:List D)(g:Nat->List Int),(∀i p,l[i]?=some p->(g i).length<=aD p)->(((List.range l.length).map g).flatten).length<=(l.map aD).sum:=by intro l;induction l with|nil=>intro g _;simp|cons p l f=>intro g a;rw[b_,List.range_succ_eq_map,cD,List.flatten_cons,cS,List.map_map,cD,List.sum_cons];have a1:=a 0 p rfl;have a2:=f (λi=>g (i+1)) λi q e=>a (i+1) q (by simpa using e);exact Nat.add_le_add a1 a2
   refine cw (j (av x ps) _ λi p e=>?_) (by omega);obtain⟨⟨h,m⟩,o⟩:=dy wf e;rw[e];exact Fz n _ p h m
theorem DC:∀z,z∈six->isNm z=true:=λz a=>List.all_eq_true.mp (show(six.all λz=>isNm z)=true by decide+kernel) z a
noncomputable def j5(N:List Str)(d:D):Str:=pR 60 N ((mW (mT (N++bz 60 d)) 702).take (depth d)) d
structure Good(k:Bool)(N:List Str)(d:D):Prop where
 g:mZ k 0 d
 dp:depth d<=40
 kn:aD d<=600
 nd:N.Nodup
 nm:∀z,z∈N->isNm z=true/\z∉bz 60 d
 LL:N.length<=38
 en:∀z,z∈bW 60 0 d->z<N.length
theorem Good.fr{k:Bool}{N:List Str}{d:D}(h:Good k N d):∀z,z∈bW 60 0 d->0<=z/\z<=35:=λz a=>h.g.fr 60 z a
theorem Good.tak{k:Bool}{N:List Str}{d:D}(h:Good k N d):(mT (N++bz 60 d)).length<=100:=by have h1:=h.LL;unfold mT;rw[<-(s_ (N++bz 60 d) [] rfl List.nodup_nil).1];refine cw (Fx (Ns:=N++six) λz a=>?_) (by rw[cS,show six.length=6 from rfl];omega);rw[List.mem_append]at a⊢;exact a.imp id (h.g.nm 60 z)
theorem CT{T:List Str}{z:Str}(h:z∈mW T 702):isNm z=true/\z∉T:=by unfold mW at h;obtain⟨h1,h2⟩:=List.mem_filter.mp h;obtain⟨i,hi,rfl⟩:=List.mem_map.mp h1;exact⟨Py (List.mem_range.mp hi),of_decide_eq_true h2⟩
theorem Good.grw{k:Bool}{N:List Str}{d:D}(h:Good k N d):He N k d (wS (j5 N d).cps.toList)/\(j5 N d).length<=50000:=by
 have ht:=h.tak;have hd:=h.dp;have g:=h.kn;have hl:=vK (mT (N++bz 60 d)) 702;have i:((mW (mT (N++bz 60 d)) 702).take (depth d)).length=depth d:=by rw[jx];omega
 have ok:Ok N ((mW (mT (N++bz 60 d)) 702).take (depth d)):=by
  refine⟨List.nodup_append.mpr ⟨h.nd,(List.take_sublist _ _).nodup (Q0 _ _),λa ha b hb e=>?_⟩,λz f=>?_⟩;·subst e;exact(CT (tR hb)).2 ((En _ _).mpr (List.mem_append.mpr (.inl ha)))
  ·rcases List.mem_append.mp f with f|f;·exact(h.nm z f).1
   ·exact(CT (tR f)).1
 constructor
 ·refine D9 60 N _ d k h.g.wf (by omega) hd (by omega) (sQ 60 0 N.length d λz f=>h.en z f) ok λz f=>⟨DC z (h.g.nm 60 z f),λc=>?_⟩;rcases List.mem_append.mp c with c|c;·exact(h.nm z c).2 f
  ·exact(CT (tR c)).2 ((En _ _).mpr (List.mem_append.mpr (.inr f)))
 ·refine cw (xF 12 60 N _ d ⟨k,h.g.wf⟩ (by omega) (λz f=>(il (ok.nm z f)).2.1) λz f=>(il (DC z (h.g.nm 60 z f))).2.1) ?_;have :=Nat.mul_le_mul_left (12+50) g;omega
theorem Good.sh{k:Bool}{N:List Str}{d:D}(h:Good k N d){H:Hp}{v:V}{e:Addr}{Q:VK}{E:XK}(r:Rep H d v)(hb:H e=some (.lst (N.map V.str)))(q:∀H',aE H H'->Q (.str (j5 N d)) H'):DP [v, .ref e] H Q E:=by
 have hd:=h.dp;have g:=h.kn;have f:=h.LL;have h1:=Fz 60 0 d k h.g.wf;have h2:=xv 60 d;refine⟨d,v,e,N,six,rfl,r,⟨⟨k,h.g.wf⟩,by omega,by omega⟩,hb,λz c=>?_,by rw[show six.length=6 from rfl];omega,by omega,h.g.nm 60,λz c=>?_,by omega,by omega,λz c=>?_,q⟩;·have :=(il (h.nm z c).1).2.1;omega
 ·have :=(il (DC z c)).2.1;omega
 ·have a:=h.fr z c;have b:=h.en z c;exact⟨a.1,by omega,b⟩
noncomputable def Ur:D:= .tup [.str "fun",nu, .tup [.str "app", .tup [.str "var", .int 0], .tup [.str "var", .int 1]]]
theorem iM:Good false ["b"] Ur:=by
 have g:mZ false 0 Ur:=by
  have k:dY "fun"=false:=by decide+kernel
  have ed:bN "fun"=[Str.ofString "kind","term"]:=by decide+kernel
  rw[<-k];refine kS (ps:=[nu, .tup [.str "app", .tup [.str "var", .int 0], .tup [.str "var", .int 1]]]) (by decide+kernel) (by rw[ed];rfl) λi p a=>?_;rw[ed];match i,a with|0,a=>cases a;exact⟨_,rfl,by rw[show decide (Str.ofString "kind"=Str.ofString "kind")=true by decide+kernel];exact mL yI (by decide+kernel) (by decide+kernel) (by decide+kernel)⟩|1,a=>cases a;exact⟨_,rfl,by rw[show decide (Str.ofString "term"=Str.ofString "kind")=false by decide+kernel];exact DY (wV (by decide) (by decide) (by omega)) (wV (by decide) (by decide) (by omega))⟩|i+2,a=>simp at a
 refine⟨g,by decide+kernel,by decide+kernel,by decide,λz b=>?_,by decide,?_⟩;·rw[List.mem_singleton.mp b];exact⟨by decide+kernel,by decide+kernel⟩
 ·have :bW 60 0 Ur=[0]:=by decide+kernel
  rw[this];intro z b;rw[List.mem_singleton.mp b];decide
theorem gq{H H':Hp}{a:Addr}{xs:List V}(h:aZ K H a xs)(s:aE H H'):aZ K H' a xs:=by
 rcases h with h|h;·exact .inl (h.imp (λh=>s _ _ h) λ⟨o,h⟩=>⟨o,s _ _ h⟩)
 ·exact .inr h
noncomputable abbrev WR:TE:=DV (dv (tC (V.str "fun")) (dv (DV (dv (tC (V.str "nat")) nE)) (dv (DV (dv (tC (V.str "app")) (dv (DV (dv (tC (V.str "var")) (dv (tC (V.int 0)) nE))) (dv (DV (dv (tC (V.str "var")) (dv (tC (V.int 1)) nE))) nE)))) nE)))
theorem O1{σ:L2.St}{H0:Hp}:Mk σ H0 WR Ur:=rK (cV (rE (by decide+kernel)) (cV (rK (cV (rE (by decide+kernel)) lF)) (cV (rK (cV (rE (by decide+kernel)) (cV (rK (cV (rE (by decide+kernel)) (cV JR lF))) (cV (rK (cV (rE (by decide+kernel)) (cV JR lF))) lF)))) lF)))
def Eb(K:PySem.W.Frag):Sp:=λvs H Q _=>∃(a:Addr)(ns:List Int),vs=[.ref a]/\aZ K H a (ns.map V.int)/\∀H',Q (.bl true) H'
theorem gV:aG ["_law_script","_law_want","_law_thing_here","_law_many","_law_kept_here","_law_names_here","_law_line","_law_other","_law_far"] ["_law_script"] (ak FW):=⟨rfl,rfl,rfl,by decide+kernel,rfl,by decide+kernel,by decide+kernel⟩
seal DP
theorem Vg{f:Addr}{fd:FuncData}(F:Nj K "law" "law" FW f fd)(M:Mg mg t)(C:bu P w K mg bx "_law_cell_at" (1) ["_law_script","_law_k"] (qS K))(jg:bu P w K mg bx "_law_thing" (138) P6 (Nd K 6))(Dl:bu P w K mg bx "_law_more" (192) ["_law_thing_here","_law_want","_law_cell"] Xo)(fZ:bu P w K mg bx "_law_greatest" (191) ["_law_thing_here","_law_over"] (L9 60))(kr:bu P w K mg bx "_law_kept" (61) ["_law_thing_here","_law_found"] (L_ 60))(nN:bu P w K mg bx "_law_names" (131) ["_law_many","_law_far","_law_kept_here"] Ym)(R:bu P w K mg (gO P w) "shown" (141) ["thing","names"] DP)(kE:bu P w K mg bx "_law_read" (131) ["_law_line","_law_want","_law_names_here"] (Xd K))(jm:bu P w K mg (gO P w) "read_term" (67) ["text","names"] (Hi "term" K t.bc t.gJ)):pB P w K mg base bx 193 f fd ["_law_script"] (Eb K):=by
 refine F.ok gV (λvs H Q E h=>?_) (λbS A outer s H vs Q E hr h=>?_);·obtain⟨a,ns,rfl,_⟩:=h;rfl
 obtain⟨a,ns,rfl,hS,q⟩:=h;have U:=hr.units;have h1:=vy hr;refine⟨_,(ag (aI (i:=1) gV.nd rfl (cj rfl) (aX bJ (bX (aa aq (aa aq af))) (aN cB (aO C hr.m rfl aQ (aa (pv 0) (aa aj af))) aj) (λ_ _=>rfl))) (ag (aI (i:=2) gV.nd rfl (cj rfl) (aO jg hr.m rfl aQ (aa (pv 0) (aa (bX (aa aj (aa aj af))) (aa (pv 1) (aa (aN dN aj (aN cB (aN dn (aO C hr.m rfl aQ (aa (pv 0) (aa aj af))) aj) aj)) (aa aj af))))))) (ag (aI (i:=2) gV.nd rfl (cj rfl) (aO Dl hr.m rfl aQ (aa (pv 2) (aa (pv 1) (aa (aO C hr.m rfl aQ (aa (pv 0) (aa aj af))) af))))) (ag (aI (i:=3) gV.nd rfl (cj rfl) (aN dN (aN dN aj (aO fZ hr.m rfl aQ (aa (pv 2) (aa aj af)))) (aN cB (aO C hr.m rfl aQ (aa (pv 0) (aa aj af))) aj))) (ag (aI (i:=4) gV.nd rfl (cj rfl) (aO kr hr.m rfl aQ (aa (pv 2) (aa (bX af) af)))) (ag (aI (i:=5) gV.nd rfl (cj rfl) (aO nN hr.m rfl aQ (aa (pv 3) (aa (aN cB (aN dn (aO C hr.m rfl aQ (aa (pv 0) (aa aj af))) aj) aj) (aa (pv 4) af))))) (ag (aI (i:=6) gV.nd rfl (cj rfl) (aO R hr.m rfl sD (aa (pv 2) (aa (pv 5) af)))) (ag (aT (aw (zE U) (aO kE hr.m rfl aQ (aa (pv 6) (aa (pv 1) (aa (pv 5) af)))) (pv 2) (az _)) (ai (aA qV)) aC) (ag (aI (i:=7) gV.nd rfl (cj rfl) (aO R hr.m rfl sD (aa (bp (aa aq (aa (bp (aa aq af)) (aa (bp (aa aq (aa (bp (aa aq (aa aj af))) (aa (bp (aa aq (aa aj af))) af)))) af)))) (aa (bX (aa aq af)) af)))) (ag (aT (aw (zE U) (aO jm hr.m rfl sD (aa (pv 7) (aa (bX (aa aq af)) af))) (bp (aa aq (aa (bp (aa aq af)) (aa (bp (aa aq (aa (bp (aa aq (aa aj af))) (aa (bp (aa aq (aa aj af))) af)))) af)))) (az _)) (ai (aA qV)) aC) (ag (aI (i:=8) gV.nd rfl (cj rfl) (aO nN hr.m rfl aQ (aa (pv 3) (aa (aN iP aj (aN cB (aN dn (aO C hr.m rfl aQ (aa (pv 0) (aa aj af))) aj) aj)) (aa (pv 4) af))))) (ag (aT (aw (zE U) (aO kE hr.m rfl aQ (aa (aO R hr.m rfl sD (aa (pv 2) (aa (pv 8) af))) (aa (pv 1) (aa (pv 8) af)))) (pv 2) (az _)) (ai (aA qV)) aC) (ai (aA (vR (cG aY (aO R hr.m rfl sD (aa (pv 2) (aa (pv 5) af))) (pv 6) (az _)) (yX (cG (Tx U) (aO kE hr.m rfl aQ (aa (pv 6) (aa (pv 1) (aa (pv 5) af)))) (pv 2) (az _)))))))))))))))))),?_⟩;try dsimp only[iF,cJ]
 refine Wv ?_;intro _ _ _ _ _ _ _ _ _ _ _ _ _;rename_i O v13 v12 v11 v10 v9 v8 v7 v6 v5 v4 v3 v2;have d0:=Int.emod_nonneg (cL ns 0) (show(2:Int)≠0 by decide);have d1:=Int.emod_lt_of_pos (cL ns 0) (show(0:Int)<2 by decide);refine⟨(gu rfl),λZ yL=>?_⟩;have t3:=ao yL (.lst [V.str "t", .str "k"]);have h3:(upd H Z (.lst [V.str "t", .str "k"])) Z=some (.lst [V.str "t", .str "k"]):=ah;generalize upd H Z (.lst [V.str "t", .str "k"])=I at t3 h3⊢;have S3:=gq hS t3;clear t3 yL;obtain⟨want,L,TN⟩:∃want:Str,(want="k"\/want="t")/\lJ [V.str "t",V.str "k"] (cL ns 0%2)=some (.str want):=by
  rcases(show cL ns 0%2=0\/cL ns 0%2=1 by omega)with e|e;·exact⟨"t", .inr rfl,by rw[e];rfl⟩
  ·exact⟨"k", .inl rfl,by rw[e];rfl⟩
 refine⟨_,rfl,a,ns,0,rfl,S3,_,_,rfl,rfl,(by show(0:Int)<2;decide),Z,_,_, .str want,rfl,rfl,aZ.of h3,TN,?_⟩;clear TN d0 d1 h3;have e0:=Int.emod_nonneg (cL ns 0/2) (show(5:Int)≠0 by decide);have e1:=Int.emod_lt_of_pos (cL ns 0/2) (show(0:Int)<5 by decide);obtain⟨m,hm⟩:∃m:Nat,1+cL ns 0/2%5=(m:Int):=⟨(1+cL ns 0/2%5).toNat,by omega⟩;have hm5:1<=m/\m<=5:=by omega
 refine⟨_,rfl,(gu rfl),λp Y=>?_⟩;have t4:=ao Y (.lst [V.int 3, .int 150]);have h4:(upd I p (.lst [V.int 3, .int 150])) p=some (.lst [V.int ((3:Nat):Int), .int 150]):=ah;have J:∀H',bg p (upd I p (.lst [V.int 3, .int 150])) H'->aZ K H' a (ns.map V.int):=λH' s=>by
  rcases S3 with(h|⟨o,h⟩)|h;·exact .inl (.inl (s _ _ (ay h Y) (t4 _ _ h)))
  ·exact .inl (.inr ⟨o,s _ _ (ay h Y) (t4 _ _ h)⟩)
  ·exact .inr h
 have S4:=J _ (λb o _ h=>h);generalize upd I p (.lst [V.int 3, .int 150])=H4 at t4 h4 J S4⊢;refine⟨_,rfl,_,rfl,a,ns,0,rfl,S4,_,_,rfl,rfl,⟨by decide,by decide⟩,_,_,rfl,rfl,(by show(0:Int)<5;decide),_,_,rfl,rfl,a,p,ns,want,m,3,0,150,?_,by omega,J,h4,by omega,by omega,by omega,by omega,L,λr0 H5 o=>?_⟩;·show[V.ref a,V.ref p,V.str want,V.int (1+cL ns 0/2%5),V.int 0]=_;rw[hm];rfl
 obtain⟨d0,i',fj,lf,y1,y2,y3,y4,y5,y6,y7,y8,y9,y11,y12,ZO⟩:=o.ex;have abj:fj<=60:=by rcases y8 with h|h<;>omega
 have S5:=J _ y1;clear J S4 h4 t4 Y S3;refine⟨_,rfl,_,rfl,_,rfl,a,ns,1,rfl,S5,d0,r0,want,_,rfl,ZO,L,y9,by omega,by omega,λd v H6 s6 r6 j W X=>?_⟩;have S6:=gq S5 s6;have wf6:Wf d:=⟨_,j.wf⟩;refine⟨_,rfl,d,v,0,rfl,r6,wf6,by omega,Int.le_refl _,λz hz=>(j.fr 60 z hz).2,λg S s7 hg1 hg2 hg3=>?_⟩;have hg3:=hg3 rfl;have S7:=gq S6 s7;have r7:=r6.mono s7;have f0:=Int.emod_nonneg (cL ns 2) (show(3:Int)≠0 by decide);have f1:=Int.emod_lt_of_pos (cL ns 2) (show(0:Int)<3 by decide);obtain⟨k,hmm⟩:∃k:Nat,1+g+cL ns 2%3=(k:Int):=⟨(1+g+cL ns 2%3).toNat,by omega⟩;have Ox:k<=38:=by omega
 refine⟨_,_,rfl,rfl,_,rfl,a,ns,2,rfl,S7,_,_,rfl,rfl,(by show(0:Int)<3;decide),_,_,rfl,rfl,?_⟩;show v5 O [some (.ref a),some (.str want),some v,some (.int (1+g+cL ns 2%3)),none,none,none,none,none] S;rw[hmm];refine⟨_,rfl,(gu rfl),λr Y7=>?_⟩;have t8:=ao Y7 (.lst []);have h8:(upd S r (.lst [])) r=some (.lst (([]:List Str).map V.str)):=ah;generalize upd S r (.lst [])=H8 at t8 h8⊢;refine⟨d,v,r,[],rfl,r7.mono t8,wf6,by omega,h8,by show 0+aD d<=100000;omega,λH9 s9 h9=>?_⟩;rw[List.nil_append]at h9;have s79:aE S H9:=λc o h=>s9 _ _ (ay h Y7) (t8 _ _ h);have T:=gq S7 s79;have r9:=r7.mono s79;have hx0:=Int.emod_nonneg (cL ns 2/3) (show(2:Int)≠0 by decide);have hx1:=Int.emod_lt_of_pos (cL ns 2/3) (show(0:Int)<2 by decide);have mkG:∀N:List Str,N.length=k->N.Nodup->(∀z,z∈N->isNm z=true/\z∉bz 60 d)->Good (decide (want="k")) N d:=λN l n h=>⟨j,W,X,n,h,by omega,λz hz=>by have :=hg1 z hz;omega⟩;refine⟨_,rfl,_,rfl,a,ns,2,rfl,T,_,_,rfl,rfl,⟨by decide,by decide⟩,_,_,rfl,rfl,(by show(0:Int)<2;decide),_,rfl,k,cL ns 2/3%2,r,bz 60 d,rfl,Ox,by omega,h9,j.nm 60,λB N Lr LR UX _ nl nd nn=>?_⟩;have G:=mkG N nl nd nn;obtain⟨gr,gl⟩:=G.grw;have S10:=gq T LR;have XF:=r9.mono LR;refine⟨_,rfl,_,rfl,?_⟩;show DP [v, .ref B] Lr (λx D=>v8 O [some (.ref a),some (.str want),some v,some (.int (k:Nat)),some (.ref r),some (.ref B),some x,none,none] D) E0;refine G.sh XF UX λZo Y9=>?_;have Pb:=Y9 _ _ UX;refine⟨_,rfl,_,rfl,_,rfl,j5 N d,want,B,N,d,rfl,L,gl,Pb,by omega,gr,W,X,λv12 NT Ma r12=>?_⟩;have RS:=LR.trans (Y9.trans Ma);have Vw:=r9.mono RS;refine⟨_,rfl,d,d,true,r12,Vw,by omega,by omega,j.cm,j.cm,⟨λ_=>rfl,λ_=>rfl⟩,_,rfl,bR ?_⟩;have S12:=gq T RS;have V0:=Ma _ _ Pb;have h9':=RS _ _ h9;clear r12 S10 S7 S6 S5 T;show WR [some (.ref a),some (.str want),some v,some (.int (k:Nat)),some (.ref r),some (.ref B),some (.str (j5 N d)),none,none] NT (λx D=>dv (Ws (dv (tC (V.str "b")) nE)) nE [some (.ref a),some (.str want),some v,some (.int (k:Nat)),some (.ref r),some (.ref B),some (.str (j5 N d)),none,none] D λxs H2=>DP (x::xs++[]) H2 (λy I=>v10 O [some (.ref a),some (.str want),some v,some (.int (k:Nat)),some (.ref r),some (.ref B),some (.str (j5 N d)),some y,none] I) E0);refine O1 NT (aE.refl _) _ λu Zi QP r13=>?_;refine⟨(gu rfl),λq1 CB=>?_⟩;have t14:=ao CB (.lst [V.str "b"]);have h14:(upd Zi q1 (.lst [V.str "b"])) q1=some (.lst ((["b"]:List Str).map V.str)):=ah;generalize upd Zi q1 (.lst [V.str "b"])=H14 at t14 h14⊢;show DP [u, .ref q1] H14 (λx D=>v10 O [some (.ref a),some (.str want),some v,some (.int (k:Nat)),some (.ref r),some (.ref B),some (.str (j5 N d)),some x,none] D) E0;refine iM.sh (r13.mono t14) h14 λH15 s15=>?_;obtain⟨xr,xl⟩:=iM.grw;refine⟨_,rfl,(gu rfl),λq2 JN=>?_⟩;have t16:=ao JN (.lst [V.str "b"]);have h16:(upd H15 q2 (.lst [V.str "b"])) q2=some (.lst ((["b"]:List Str).map V.str)):=ah;generalize upd H15 q2 (.lst [V.str "b"])=H16 at t16 h16⊢;refine zt xl h16 (by decide) xr (by decide+kernel) iM.dp iM.kn λv17 H17 s17 r17=>?_;refine O1 H17 (aE.refl _) _ λu2 H18 s18 r18=>?_;have xd:=iM.dp;refine⟨Ur,Ur,true,r17.mono s18,r18,by omega,by omega,iM.g.cm,iM.g.cm,⟨λ_=>rfl,λ_=>rfl⟩,_,rfl,bR ?_⟩;have Gb:aE NT H18:=QP.trans (t14.trans (s15.trans (t16.trans (s17.trans s18))));have S18:=gq S12 Gb;have W2:=Vw.mono Gb;have U7:=Gb _ _ V0;have aa7:=Gb _ _ h9';refine⟨_,rfl,_,rfl,a,ns,2,rfl,S18,_,_,rfl,rfl,⟨by decide,by decide⟩,_,_,rfl,rfl,(by show(0:Int)<2;decide),_,_,rfl,rfl,_,rfl,k,1-cL ns 2/3%2,r,bz 60 d,rfl,Ox,by omega,aa7,j.nm 60,λfb N2 H19 s19 hfb _ nl2 nd2 nn2=>?_⟩;have G2:=mkG N2 nl2 nd2 nn2;obtain⟨gr2,gl2⟩:=G2.grw;have aaV:=W2.mono s19;refine⟨_,rfl,_,rfl,?_⟩;refine G2.sh aaV hfb λH20 s20=>?_;refine⟨_,rfl,_,rfl,j5 N2 d,want,fb,N2,d,rfl,L,gl2,s20 _ _ hfb,by omega,gr2,W,X,λv21 H21 s21 r21=>?_⟩;have Pn:=s19.trans (s20.trans s21);have QM:=W2.mono Pn;have Qk:=Pn _ _ U7;refine⟨_,rfl,d,d,true,r21,QM,by omega,by omega,j.cm,j.cm,⟨λ_=>rfl,λ_=>rfl⟩,_,rfl,bR ?_⟩;refine⟨_,rfl,_,rfl,?_⟩;refine G.sh QM Qk λH22 s22=>?_;refine⟨_,rfl,rfl,_,rfl,?_⟩;rw[decide_eq_true rfl];refine bj ⟨_,rfl,_,rfl,_,rfl,j5 N d,want,B,N,d,rfl,L,gl,s22 _ _ Qk,by omega,gr,W,X,λv23 H23 Up r23=>?_⟩;exact⟨_,rfl,d,d,true,r23,QM.mono (s22.trans Up),by omega,by omega,j.cm,j.cm,⟨λ_=>rfl,λ_=>rfl⟩,q H23⟩
end K57
end
section
namespace K57
open PySem L2 L3 KM
theorem QC{P:Program}{w:World}{K:PySem.W.Frag}{mg:Str->Option Value}{t:Aq}(D:Df K mg "_law_cell_at" dF ["_law_script","_law_k"])(M:Mg mg t):bu P w K mg bx "_law_cell_at" (1) ["_law_script","_law_k"] (qS K):=by obtain⟨f,fd,F,m,b⟩:=D;exact⟨f,fd,λbase=>Mn F M.cH,m,F.kp,b⟩
structure Ek(K:PySem.W.Frag)(t:Aq):Prop where
 nt:tJ K t.bc
 gr:tJ K t.gJ
 nv:tJ K t.iD
structure Txt(K:PySem.W.Frag)(mg:Str->Option Value)(t:Aq):Prop where
 M:Mg mg t
 Hh:Df K mg "is_name" g7 ["value"]
 HC:Df K mg "is_vast" g_ ["value"]
 HA:Df K mg "kids_of" jF ["thing"]
 Dw:Df K mg "binds_of" f_ ["thing"]
 CL:Df K mg "depth_of" eC ["thing"]
 rS:Df K mg "top_variable" cq ["thing"]
 Gu:Df K mg "bounded" jO ["thing"]
 rW:Df K mg "numbers_free" c6 ["thing","binders"]
 G6:Df K mg "free_in" jE ["thing"]
 Dd:Df K mg "names_in" fV ["thing"]
 vO:Df K mg "name_after" fJ ["name"]
 zT:Df K mg "names_left" fF ["count","taken"]
 uG:Df K mg "number_told" eQ ["thing"]
 Hm:Df K mg "text_of" h_ ["thing","around","left"]
 NJ:Df K mg "shown" qA ["thing","names"]
 DO:Df K mg "words_of" gb ["text"]
 GO:Df K mg "form_of" jJ ["head"]
 uD:Df K mg "thing_named" eU ["word","forms","names"]
 AY:Df K mg "is_figure" fi ["word"]
 C5:Df K mg "count_of" iL ["number"]
 GK:Df K mg "leaf_of" jM ["word","forms","names"]
 yW:Df K mg "read_thing" fG ["text","names","due"]
 Cj:Df K mg "read_term" gL ["text","names"]
 Ca:Df K mg "read_kind" gB ["text","names"]
 uj:Df K mg "_law_cell_at" dF ["_law_script","_law_k"]
 Bk:Df K mg "_law_shape" gN ["_law_word"]
 CZ:Df K mg "_law_leaf" iH ["_law_cell","_law_want","_law_over","_law_state"]
 A2:Df K mg "_law_bound" gy ["_law_word"]
 Bb:Df K mg "_law_thing" ft P6
 rj:Df K mg "_law_greatest" cW ["_law_thing_here","_law_over"]
 A7:Df K mg "_law_knots" eZ ["_law_thing_here"]
 Dk:Df K mg "_law_deep" gj ["_law_thing_here"]
 Dy:Df K mg "_law_read" iQ ["_law_line","_law_want","_law_names_here"]
 DF:Df K mg "_law_more" ip ["_law_thing_here","_law_want","_law_cell"]
 DG:Df K mg "_law_kept" gf ["_law_thing_here","_law_found"]
 BC:Df K mg "_law_names" cy ["_law_many","_law_far","_law_kept_here"]
 VW:Df K mg "law" FW ["_law_script"]
 xx:Nk K t.iz [.str "nat", .str "none", .str "all", .str "some", .str "same"]
 DA:∃as,KD K t.jc [("nat",[]),("none",[]),("all",[.str "kind", .str "kind"]),("some",[.str "kind", .str "kind"]),("same",[.str "kind", .str "term", .str "term"]),("var",[]),("fun",[.str "kind", .str "term"]),("app",[.str "term", .str "term"]),("zero",[]),("next",[.str "term"]),("rec",[.str "kind", .str "term", .str "term", .str "term"]),("like",[.str "kind", .str "term"]),("carry",[.str "kind", .str "term", .str "term"]),("never",[.str "kind", .str "term"]),("pair",[.str "kind", .str "term", .str "term"]),("first",[.str "term"]),("second",[.str "term"]),("name",[])] as
 eV:ic K t.de [("all", .int 1),("some", .int 1),("fun", .int 1),("rec", .int 0),("carry", .int 0)]
 aK:oO K t.Form
 RO:PySem.W.makesIn K t.Form=true/\PySem.W.keepIn K (.ref t.Form)=true
 Aw:Dm K t.Form "__init__" "Form.__init__" cz ["self","word","name","due"]
 my:Dm K t.Form "binds_here" "Form.binds_here" bh ["self"]
 qU:Dm K t.Form "is_full" "Form.is_full" bH ["self"]
 AL:Dm K t.Form "take" "Form.take" cA ["self","thing"]
 uB:Dm K t.Form "closed" "Form.closed" bP ["self"]
 X:Ek K t
theorem txt_mk{K:PySem.W.Frag}{h:Heap}{mg:Str->Option Value}(X:K.In h)(G:h.Ns mainGlobals mg){uz:Tok}{wK:Tok}{nG:Tok}{pA:Tok}{C4:Tok}{l:Addr}{uy:Option Addr}{j9:Array Value}{uw:Nat}{ux:Array (Option Value)}{i:Addr}{j:Array DictEntry}{BV:Nat}{o y z A B C D E F H p q r s u v w x:Addr}{yz:Option Addr}{Y:Array Value}{vM:Nat}{zy:Array (Option Value)}{yY:Option Addr}{W:Array Value}{xH:Nat}{xq:Array (Option Value)}{xt:Option Addr}{V:Array Value}{zc:Nat}{wb:Array (Option Value)}{yx:Option Addr}{U:Array Value}{xu:Nat}{ym:Array (Option Value)}{wc:Option Addr}{T:Array Value}{xA:Nat}{zp:Array (Option Value)}{yV:Option Addr}{S:Array Value}{Aa:Nat}{xD:Array (Option Value)}{zX:Option Addr}{R:Array Value}{yD:Nat}{xG:Array (Option Value)}{zx:Option Addr}{Q:Array Value}{x9:Nat}{zo:Array (Option Value)}{Av:Option Addr}{ox:Array Value}{Cd:Nat}{BW:Array (Option Value)}{AM:Option Addr}{nX:Array Value}{As:Nat}{AI:Array (Option Value)}{Co:Option Addr}{oS:Array Value}{Be:Nat}{B3:Array (Option Value)}{B4:Option Addr}{oQ:Array Value}{Bm:Nat}{By:Array (Option Value)}{A4:Option Addr}{oj:Array Value}{Bj:Nat}{Bd:Array (Option Value)}{B2:Option Addr}{nY:Array Value}{Cf:Nat}{BH:Array (Option Value)}{Bu:Option Addr}{oF:Array Value}{Cr:Nat}{BQ:Array (Option Value)}{Bw:Option Addr}{oq:Array Value}{Cq:Nat}{AV:Array (Option Value)}{BU:Option Addr}{Z:Array Value}{B9:Nat}{B5:Array (Option Value)}{AR:Option Addr}{P:Array Value}{AO:Nat}{Bh:Array (Option Value)}{g:Addr}{O:Array DictEntry}{rR:Nat}{Dt:Tok}{tQ:Tok}{k:Addr}{n:Addr}{m:Addr}{a:Addr}{d:Addr}{wG yu:Option Addr}{xB:Array (Option Value)}{zA zS zC w_ L zQ:Value}{b:Addr}{km kL:Option Addr}{kK:Array (Option Value)}{kz kI kq kB I ko:Value}{e:Addr}{pO pP:Option Addr}{pE:Array (Option Value)}{pL pQ pI pJ M pG:Value}{f:Addr}{zq xX:Option Addr}{yh:Array (Option Value)}{wD wH xf zH N yq:Value}{c:Addr}{rQ si:Option Addr}{ua:Array (Option Value)}{sV tK tN rL J sU:Value}(a0:cx K "is_name" g7)(a1:cx K "is_vast" g_)(a2:cx K "kids_of" jF)(a3:cx K "binds_of" f_)(a4:cx K "depth_of" eC)(a5:cx K "top_variable" cq)(a6:cx K "bounded" jO)(a7:cx K "numbers_free" c6)(a8:cx K "free_in" jE)(a9:cx K "names_in" fV)(a10:cx K "name_after" fJ)(a11:cx K "names_left" fF)(a12:cx K "number_told" eQ)(a13:cx K "text_of" h_)(a14:cx K "shown" qA)(a15:cx K "words_of" gb)(a16:cx K "form_of" jJ)(a17:cx K "thing_named" eU)(a18:cx K "is_figure" fi)(a19:cx K "count_of" iL)(a20:cx K "leaf_of" jM)(a21:cx K "read_thing" fG)(a22:cx K "read_term" gL)(a23:cx K "read_kind" gB)(a24:cx K "_law_cell_at" dF)(a25:cx K "_law_shape" gN)(a26:cx K "_law_leaf" iH)(a27:cx K "_law_bound" gy)(a28:cx K "_law_thing" ft)(a29:cx K "_law_greatest" cW)(a30:cx K "_law_knots" eZ)(a31:cx K "_law_deep" gj)(a32:cx K "_law_read" iQ)(a33:cx K "_law_more" ip)(a34:cx K "_law_kept" gf)(a35:cx K "_law_names" cy)(a36:cx K "law" FW)(z_all:PySem.W.nsIn K mainGlobals "all"=some none)(z_int:PySem.W.nsIn K mainGlobals "int"=some none)(z_isinstance:PySem.W.nsIn K mainGlobals "isinstance"=some none)(z_len:PySem.W.nsIn K mainGlobals "len"=some none)(z_list:PySem.W.nsIn K mainGlobals "list"=some none)(z_max:PySem.W.nsIn K mainGlobals "max"=some none)(z_min:PySem.W.nsIn K mainGlobals "min"=some none)(z_range:PySem.W.nsIn K mainGlobals "range"=some none)(z_reversed:PySem.W.nsIn K mainGlobals "reversed"=some none)(z_set:PySem.W.nsIn K mainGlobals "set"=some none)(z_sorted:PySem.W.nsIn K mainGlobals "sorted"=some none)(z_str:PySem.W.nsIn K mainGlobals "str"=some none)(z_tuple:PySem.W.nsIn K mainGlobals "tuple"=some none)(z_zip:PySem.W.nsIn K mainGlobals "zip"=some none)(g_MOST_KNOTS:PySem.W.nsIn K mainGlobals "MOST_KNOTS"=some (some (.int 600 uz)))(g_MOST_DEEP:PySem.W.nsIn K mainGlobals "MOST_DEEP"=some (some (.int 40 wK)))(g_MOST_VARIABLE:PySem.W.nsIn K mainGlobals "MOST_VARIABLE"=some (some (.int 99 nG)))(g_MOST_LETTERS:PySem.W.nsIn K mainGlobals "MOST_LETTERS"=some (some (.int 12 pA)))(g_LETTERS:PySem.W.nsIn K mainGlobals "LETTERS"=some (some (.str "abcdefghijklmnopqrstuvwxyz" C4)))(g_KIND_WORDS:PySem.W.nsIn K mainGlobals "KIND_WORDS"=some (some (.ref l)))(lk_KIND_WORDS:K.lookup l=some ⟨.type "tuple",uy, .seq j9 uw,ux⟩)(vs_KIND_WORDS:cf [.str "nat", .str "none", .str "all", .str "some", .str "same"] j9=true)(g_KIDS_DUE:PySem.W.nsIn K mainGlobals "KIDS_DUE"=some (some (.ref i)))(lk_KIDS_DUE:K.lookup i=some ⟨.type "dict",none, .dict j BV,#[]⟩)(sy_KIDS_DUE:(i==sysModules)=false)(ks_KIDS_DUE:iJ j.toList ["nat","none","all","some","same","var","fun","app","zero","next","rec","like","carry","never","pair","first","second","name"]=true)(rf_KIDS_DUE:refsOf j.toList=[o,y,z,A,B,C,D,E,F,H,p,q,r,s,u,v,w,x])(u0_KIDS_DUE:K.lookup o=some ⟨.type "tuple",AR, .seq P AO,Bh⟩)(v0_KIDS_DUE:cf [] P=true)(u1_KIDS_DUE:K.lookup y=some ⟨.type "tuple",BU, .seq Z B9,B5⟩)(v1_KIDS_DUE:cf [] Z=true)(u2_KIDS_DUE:K.lookup z=some ⟨.type "tuple",Bw, .seq oq Cq,AV⟩)(v2_KIDS_DUE:cf [.str "kind", .str "kind"] oq=true)(u3_KIDS_DUE:K.lookup A=some ⟨.type "tuple",Bu, .seq oF Cr,BQ⟩)(v3_KIDS_DUE:cf [.str "kind", .str "kind"] oF=true)(u4_KIDS_DUE:K.lookup B=some ⟨.type "tuple",B2, .seq nY Cf,BH⟩)(v4_KIDS_DUE:cf [.str "kind", .str "term", .str "term"] nY=true)(u5_KIDS_DUE:K.lookup C=some ⟨.type "tuple",A4, .seq oj Bj,Bd⟩)(v5_KIDS_DUE:cf [] oj=true)(u6_KIDS_DUE:K.lookup D=some ⟨.type "tuple",B4, .seq oQ Bm,By⟩)(v6_KIDS_DUE:cf [.str "kind", .str "term"] oQ=true)(u7_KIDS_DUE:K.lookup E=some ⟨.type "tuple",Co, .seq oS Be,B3⟩)(v7_KIDS_DUE:cf [.str "term", .str "term"] oS=true)(u8_KIDS_DUE:K.lookup F=some ⟨.type "tuple",AM, .seq nX As,AI⟩)(v8_KIDS_DUE:cf [] nX=true)(u9_KIDS_DUE:K.lookup H=some ⟨.type "tuple",Av, .seq ox Cd,BW⟩)(v9_KIDS_DUE:cf [.str "term"] ox=true)(u10_KIDS_DUE:K.lookup p=some ⟨.type "tuple",zx, .seq Q x9,zo⟩)(v10_KIDS_DUE:cf [.str "kind", .str "term", .str "term", .str "term"] Q=true)(u11_KIDS_DUE:K.lookup q=some ⟨.type "tuple",zX, .seq R yD,xG⟩)(v11_KIDS_DUE:cf [.str "kind", .str "term"] R=true)(u12_KIDS_DUE:K.lookup r=some ⟨.type "tuple",yV, .seq S Aa,xD⟩)(v12_KIDS_DUE:cf [.str "kind", .str "term", .str "term"] S=true)(u13_KIDS_DUE:K.lookup s=some ⟨.type "tuple",wc, .seq T xA,zp⟩)(v13_KIDS_DUE:cf [.str "kind", .str "term"] T=true)(u14_KIDS_DUE:K.lookup u=some ⟨.type "tuple",yx, .seq U xu,ym⟩)(v14_KIDS_DUE:cf [.str "kind", .str "term", .str "term"] U=true)(u15_KIDS_DUE:K.lookup v=some ⟨.type "tuple",xt, .seq V zc,wb⟩)(v15_KIDS_DUE:cf [.str "term"] V=true)(u16_KIDS_DUE:K.lookup w=some ⟨.type "tuple",yY, .seq W xH,xq⟩)(v16_KIDS_DUE:cf [.str "term"] W=true)(u17_KIDS_DUE:K.lookup x=some ⟨.type "tuple",yz, .seq Y vM,zy⟩)(v17_KIDS_DUE:cf [] Y=true)(g_BINDER_OVER:PySem.W.nsIn K mainGlobals "BINDER_OVER"=some (some (.ref g)))(lk_BINDER_OVER:K.lookup g=some ⟨.type "dict",none, .dict O rR,#[]⟩)(sy_BINDER_OVER:(g==sysModules)=false)(vs_BINDER_OVER:iu O.toList [("all",1),("some",1),("fun",1),("rec",0),("carry",0)]=true)(g_FIGURES:PySem.W.nsIn K mainGlobals "FIGURES"=some (some (.str "0123456789" Dt)))(g_MOST_FIGURE:PySem.W.nsIn K mainGlobals "MOST_FIGURE"=some (some (.int 39 tQ)))(g_Great:PySem.W.nsIn K mainGlobals "Great"=some (some (.ref k)))(g_NoVariable:PySem.W.nsIn K mainGlobals "NoVariable"=some (some (.ref n)))(g_NoText:PySem.W.nsIn K mainGlobals "NoText"=some (some (.ref m)))(g_Form:PySem.W.nsIn K mainGlobals "Form"=some (some (.ref a)))(pg_Form:PySem.W.plainGet K a Str.empty=true)(hd_Form:PySem.W.hasDictIn K a=true)(po_Form:PySem.W.plainOver K a=true)(sa_Form:PySem.W.findIn K (.ref a) "__setattr__"=some (some (.builtin "object.__setattr__")))(mk_Form:PySem.W.makesIn K a=true)(kp_Form:PySem.W.keepIn K (.ref a)=true)(na_Form_word:PySem.W.findIn K (.ref a) "word"=some none)(na_Form_name:PySem.W.findIn K (.ref a) "name"=some none)(na_Form_due:PySem.W.findIn K (.ref a) "due"=some none)(na_Form_parts:PySem.W.findIn K (.ref a) "parts"=some none)(a_Form_init:PySem.W.findIn K (.ref a) "__init__"=some (some (.ref d)))(l_Form_init:K.lookup d=some ⟨zA,wG, .func (PySem.W.fnOf "__init__" "Form.__init__" (cQ cz) (bG cz) (ak cz) .none zS zC w_ yu L zQ),xB⟩)(c_Form_init:PySem.W.codeIn K L "Form.__init__"=true)(k_Form_init:PySem.W.keepIn K (.ref d)=true)(n_Form_init:PySem.W.isFn K (.ref d)=true)(a_Form_binds_here:PySem.W.findIn K (.ref a) "binds_here"=some (some (.ref b)))(l_Form_binds_here:K.lookup b=some ⟨kz,km, .func (PySem.W.fnOf "binds_here" "Form.binds_here" (cQ bh) (bG bh) (ak bh) .none kI kq kB kL I ko),kK⟩)(c_Form_binds_here:PySem.W.codeIn K I "Form.binds_here"=true)(k_Form_binds_here:PySem.W.keepIn K (.ref b)=true)(n_Form_binds_here:PySem.W.isFn K (.ref b)=true)(a_Form_is_full:PySem.W.findIn K (.ref a) "is_full"=some (some (.ref e)))(l_Form_is_full:K.lookup e=some ⟨pL,pO, .func (PySem.W.fnOf "is_full" "Form.is_full" (cQ bH) (bG bH) (ak bH) .none pQ pI pJ pP M pG),pE⟩)(c_Form_is_full:PySem.W.codeIn K M "Form.is_full"=true)(k_Form_is_full:PySem.W.keepIn K (.ref e)=true)(n_Form_is_full:PySem.W.isFn K (.ref e)=true)(a_Form_take:PySem.W.findIn K (.ref a) "take"=some (some (.ref f)))(l_Form_take:K.lookup f=some ⟨wD,zq, .func (PySem.W.fnOf "take" "Form.take" (cQ cA) (bG cA) (ak cA) .none wH xf zH xX N yq),yh⟩)(c_Form_take:PySem.W.codeIn K N "Form.take"=true)(k_Form_take:PySem.W.keepIn K (.ref f)=true)(n_Form_take:PySem.W.isFn K (.ref f)=true)(a_Form_closed:PySem.W.findIn K (.ref a) "closed"=some (some (.ref c)))(l_Form_closed:K.lookup c=some ⟨sV,rQ, .func (PySem.W.fnOf "closed" "Form.closed" (cQ bP) (bG bP) (ak bP) .none tK tN rL si J sU),ua⟩)(c_Form_closed:PySem.W.codeIn K J "Form.closed"=true)(k_Form_closed:PySem.W.keepIn K (.ref c)=true)(n_Form_closed:PySem.W.isFn K (.ref c)=true)(x_nt:PySem.W.excIn K m [.type "ValueError", .type "Exception", .type "BaseException", .type "object"] "ValueError.__new__"=true)(x_gr:PySem.W.excIn K k [.type "ValueError", .type "Exception", .type "BaseException", .type "object"] "ValueError.__new__"=true)(x_nv:PySem.W.excIn K n [.type "ValueError", .type "Exception", .type "BaseException", .type "object"] "ValueError.__new__"=true):∃t,Txt K mg t:=⟨⟨(),l,i,g,k,n,m,a⟩,⟨⟨PySem.W.mg_none_of X G z_all,PySem.W.mg_none_of X G z_int,PySem.W.mg_none_of X G z_isinstance,PySem.W.mg_none_of X G z_len,PySem.W.mg_none_of X G z_list,PySem.W.mg_none_of X G z_max,PySem.W.mg_none_of X G z_min,PySem.W.mg_none_of X G z_range,PySem.W.mg_none_of X G z_reversed,PySem.W.mg_none_of X G z_set,PySem.W.mg_none_of X G z_sorted,PySem.W.mg_none_of X G z_str,PySem.W.mg_none_of X G z_tuple,PySem.W.mg_none_of X G z_zip,⟨_,PySem.W.mg_of X G g_MOST_KNOTS⟩,⟨_,PySem.W.mg_of X G g_MOST_DEEP⟩,⟨_,PySem.W.mg_of X G g_MOST_VARIABLE⟩,⟨_,PySem.W.mg_of X G g_MOST_LETTERS⟩,⟨_,PySem.W.mg_of X G g_LETTERS⟩,PySem.W.mg_of X G g_KIND_WORDS,PySem.W.mg_of X G g_KIDS_DUE,PySem.W.mg_of X G g_BINDER_OVER,⟨_,PySem.W.mg_of X G g_FIGURES⟩,⟨_,PySem.W.mg_of X G g_MOST_FIGURE⟩,PySem.W.mg_of X G g_Great,PySem.W.mg_of X G g_NoVariable,PySem.W.mg_of X G g_NoText,PySem.W.mg_of X G g_Form⟩,a0.df X G λ_ _ _ _ _ _=>ie (λ_=>rfl),a1.df X G λ_ _ _ _ _ _=>ie (λ_=>rfl),a2.df X G λ_ _ _ _ _ _=>ie (λ_=>rfl),a3.df X G λ_ _ _ _ _ _=>ie (λ_=>rfl),a4.df X G λ_ _ _ _ _ _=>ie (λ_=>rfl),a5.df X G λ_ _ _ _ _ _=>ie (λ_=>rfl),a6.df X G λ_ _ _ _ _ _=>ie (λ_=>rfl),a7.df X G λ_ _ _ _ _ _=>GY (λ_ _=>rfl),a8.df X G λ_ _ _ _ _ _=>ie (λ_=>rfl),a9.df X G λ_ _ _ _ _ _=>ie (λ_=>rfl),a10.df X G λ_ _ _ _ _ _=>ie (λ_=>rfl),a11.df X G λ_ _ _ _ _ _=>GY (λ_ _=>rfl),a12.df X G λ_ _ _ _ _ _=>ie (λ_=>rfl),a13.df X G λ_ _ _ _ _ _=>OY (λ_ _ _=>rfl),a14.df X G λ_ _ _ _ _ _=>GY (λ_ _=>rfl),a15.df X G λ_ _ _ _ _ _=>ie (λ_=>rfl),a16.df X G λ_ _ _ _ _ _=>ie (λ_=>rfl),a17.df X G λ_ _ _ _ _ _=>OY (λ_ _ _=>rfl),a18.df X G λ_ _ _ _ _ _=>ie (λ_=>rfl),a19.df X G λ_ _ _ _ _ _=>ie (λ_=>rfl),a20.df X G λ_ _ _ _ _ _=>OY (λ_ _ _=>rfl),a21.df X G λ_ _ _ _ _ _=>OY (λ_ _ _=>rfl),a22.df X G λ_ _ _ _ _ _=>GY (λ_ _=>rfl),a23.df X G λ_ _ _ _ _ _=>GY (λ_ _=>rfl),a24.df X G λ_ _ _ _ _ _=>GY (λ_ _=>rfl),a25.df X G λ_ _ _ _ _ _=>ie (λ_=>rfl),a26.df X G λ_ _ _ _ _ _=>by4 (λ_ _ _ _=>rfl),a27.df X G λ_ _ _ _ _ _=>ie (λ_=>rfl),a28.df X G λ_ _ _ _ _ _=>by5 (λ_ _ _ _ _=>rfl),a29.df X G λ_ _ _ _ _ _=>GY (λ_ _=>rfl),a30.df X G λ_ _ _ _ _ _=>ie (λ_=>rfl),a31.df X G λ_ _ _ _ _ _=>ie (λ_=>rfl),a32.df X G λ_ _ _ _ _ _=>OY (λ_ _ _=>rfl),a33.df X G λ_ _ _ _ _ _=>OY (λ_ _ _=>rfl),a34.df X G λ_ _ _ _ _ _=>GY (λ_ _=>rfl),a35.df X G λ_ _ _ _ _ _=>OY (λ_ _ _=>rfl),a36.df X G λ_ _ _ _ _ _=>ie (λ_=>rfl),cF lk_KIND_WORDS vs_KIND_WORDS,⟨_,U1 sy_KIDS_DUE lk_KIDS_DUE ks_KIDS_DUE rf_KIDS_DUE rfl (bU (cF u0_KIDS_DUE v0_KIDS_DUE) (bU (cF u1_KIDS_DUE v1_KIDS_DUE) (bU (cF u2_KIDS_DUE v2_KIDS_DUE) (bU (cF u3_KIDS_DUE v3_KIDS_DUE) (bU (cF u4_KIDS_DUE v4_KIDS_DUE) (bU (cF u5_KIDS_DUE v5_KIDS_DUE) (bU (cF u6_KIDS_DUE v6_KIDS_DUE) (bU (cF u7_KIDS_DUE v7_KIDS_DUE) (bU (cF u8_KIDS_DUE v8_KIDS_DUE) (bU (cF u9_KIDS_DUE v9_KIDS_DUE) (bU (cF u10_KIDS_DUE v10_KIDS_DUE) (bU (cF u11_KIDS_DUE v11_KIDS_DUE) (bU (cF u12_KIDS_DUE v12_KIDS_DUE) (bU (cF u13_KIDS_DUE v13_KIDS_DUE) (bU (cF u14_KIDS_DUE v14_KIDS_DUE) (bU (cF u15_KIDS_DUE v15_KIDS_DUE) (bU (cF u16_KIDS_DUE v16_KIDS_DUE) (bU (cF u17_KIDS_DUE v17_KIDS_DUE) Tu))))))))))))))))))⟩,MT sy_BINDER_OVER lk_BINDER_OVER vs_BINDER_OVER,⟨⟨pg_Form,hd_Form,po_Form,sa_Form⟩,na_Form_word,na_Form_name,na_Form_due,na_Form_parts⟩,⟨mk_Form,kp_Form⟩,⟨d,_,fD (st:=cz) l_Form_init c_Form_init k_Form_init,⟨a_Form_init,n_Form_init,k_Form_init⟩,(fD (st:=cz) l_Form_init c_Form_init k_Form_init).binds λ_ _ _ _ _ _=>by4 (λ_ _ _ _=>rfl)⟩,⟨b,_,fD (st:=bh) l_Form_binds_here c_Form_binds_here k_Form_binds_here,⟨a_Form_binds_here,n_Form_binds_here,k_Form_binds_here⟩,(fD (st:=bh) l_Form_binds_here c_Form_binds_here k_Form_binds_here).binds λ_ _ _ _ _ _=>ie (λ_=>rfl)⟩,⟨e,_,fD (st:=bH) l_Form_is_full c_Form_is_full k_Form_is_full,⟨a_Form_is_full,n_Form_is_full,k_Form_is_full⟩,(fD (st:=bH) l_Form_is_full c_Form_is_full k_Form_is_full).binds λ_ _ _ _ _ _=>ie (λ_=>rfl)⟩,⟨f,_,fD (st:=cA) l_Form_take c_Form_take k_Form_take,⟨a_Form_take,n_Form_take,k_Form_take⟩,(fD (st:=cA) l_Form_take c_Form_take k_Form_take).binds λ_ _ _ _ _ _=>GY (λ_ _=>rfl)⟩,⟨c,_,fD (st:=bP) l_Form_closed c_Form_closed k_Form_closed,⟨a_Form_closed,n_Form_closed,k_Form_closed⟩,(fD (st:=bP) l_Form_closed c_Form_closed k_Form_closed).binds λ_ _ _ _ _ _=>ie (λ_=>rfl)⟩,⟨⟨_,_,_,PySem.F.excBase_ValueError,x_nt⟩,⟨_,_,_,PySem.F.excBase_ValueError,x_gr⟩,⟨_,_,_,PySem.F.excBase_ValueError,x_nv⟩⟩⟩⟩
theorem Q6{P:Program}{w:World}{K:PySem.W.Frag}{mg:Str->Option Value}{C:Addr}{x:Str}{k:Nat}{ps:List Str}{sp:Sp}(F:jR P w K mg bx C "__init__" k ps sp)(N:PySem.W.makesIn K C=true/\PySem.W.keepIn K (.ref C)=true)(m:mg x=some (.ref C)):L5 P w K mg x C k ps sp:=by obtain⟨f,fd,F,M,b⟩:=F;exact⟨f,fd,F,⟨N.1,M.at_,M.fn,N.2⟩,m,b⟩
theorem fin{l:PySem.W.OpenLaw}{w:World}{K:PySem.W.Frag}{mg:Str->Option Value}{t:Aq}{fa:Addr}(T:Txt K mg t)(E:mg "law"=some (.ref fa)):∃fd:FuncData,(∀(s:Shared)(v:Value),BindsTo s fd ⟨[v],[]⟩ [("_law_script",v)])/\∀base:Heap,K.In base->base.Ns mainGlobals mg->pB l.prog w K mg base bx 193 fa fd ["_law_script"] (Eb K):=by
 obtain⟨f,fd,F,m,b⟩:=T.VW;have e:=E.symm.trans m;cases e;refine⟨fd,?_,λbase _ _=>?_⟩;·obtain⟨oc,od,kV,doc,pm,an,bS,ct,HI,rfl,lk,Ap⟩:=F.ex;exactλs v=> .of_eq rfl
 obtain⟨as,c⟩:=T.DA;have g:=QC (P:=l.prog) (w:=w) T.uj T.M;have x:=Cp (P:=l.prog) (w:=w) T.Bk T.M;have h:=BP (P:=l.prog) (w:=w) T.A2 T.M;have y:=CP (P:=l.prog) (w:=w) T.CZ T.M;have z:=oY T.Bb T.M g y h x 6;have A:=tF (P:=l.prog) (w:=w) T.Dk T.M 60;have o:=oP (P:=l.prog) (w:=w) T.A7 T.M 60;have p:=DK T.DF T.M A o;have q:=jt T.rj T.M h 60;have r:=sI (P:=l.prog) (w:=w) T.DG T.M 60;have u:=Cb (P:=l.prog) (w:=w) T.BC T.M;have Z:=C2 (P:=l.prog) (w:=w) T.DO T.M;have a:=GD (P:=l.prog) (w:=w) T.HA T.M;have y3:=jb T.rS T.M a 60;have y4:=GC (P:=l.prog) (w:=w) T.HC T.M;have y5:=GV T.Gu T.M T.X.gr y4 y3;have d:=Hf (P:=l.prog) (w:=w) T.Hh T.M c;have f1:=Q6 (c_Form_init (P:=l.prog) (w:=w) T.Aw T.M T.aK) T.RO T.M.g_Form;have f2:=c_Form_is_full (P:=l.prog) (w:=w) T.qU T.M T.aK;have B:=c_Form_take T.AL T.M T.aK T.X.nt T.xx f2;have C:=c_Form_closed T.uB T.M T.aK T.X.nt f2;have D:=c_Form_binds_here (P:=l.prog) (w:=w) T.my T.M T.aK T.eV;have S:=CN (P:=l.prog) (w:=w) T.C5 T.M;have U:=Ci (P:=l.prog) (w:=w) T.AY T.M;have V:=uF T.uD T.M T.aK D;have W:=HE T.GO T.M T.X.nt c T.eV d f1;have X:=J_ T.GK T.M T.X.nt U S d V;have j:=Jc T.yW T.M T.aK T.X.nt Z f1 f2 B C W X y5;have k:=A9 T.Cj T.M j;have Y:=AA T.Ca T.M j;have i:=C8 (P:=l.prog) (w:=w) T.Dw T.M c T.eV;have L:=jw T.rW T.M a i 60;have M:=Hr T.G6 T.M L;have N:=rP T.Dd T.M a 60;have O:=tT T.CL T.M a 60;have Q:=wO (P:=l.prog) (w:=w) T.vO T.M;have R:=ze T.zT T.M d Q;have G:=λn=>ug (P:=l.prog) (w:=w) (K:=K) (n:=n) T.uG T.M;have H:=uY T.Hm T.M a i T.eV G 60;have I:=Mx T.NJ T.M T.X.nv M N O R H;have J:=CD T.Dy T.M k Y;exact Vg F T.M g z p q r u I J k
theorem walk{l:PySem.W.OpenLaw}{q:Program}{loose:List Str}{XP:(Str->Option Value)->Heap->Prop}{YP:World->Heap->Prop}{d:DefRec}{K:Params->PySem.W.Frag}(hn:l.most=some 63)(c:d.params.defaults=[])(b:∀(w:World)(h:Heap),YP w h->(K w.params).In h)(F:∀(w:World)(mg:Str->Option Value)(fa:Addr)(h:Heap),(K w.params).In h->h.Ns mainGlobals mg->mg d.name=some (.ref fa)->∃fd:FuncData,(∀(s:Shared)(u:Value),BindsTo s fd ⟨[u],[]⟩ [("_law_script",u)])/\∀base:Heap,(K w.params).In base->base.Ns mainGlobals mg->pB l.prog w (K w.params) mg base bx 193 fa fd ["_law_script"] (Eb (K w.params))):PySem.W.WalkO q loose XP YP l.row.toRowW d [] (λf vs=>PySem.call f vs):=L2.My (n:=63) (k:=193) (x:="_law_script") (CX:=λ_=>bx) (sp:=λw=>Eb (K w.params)) hn (by decide) c ⟨by decide,by decide,λ_=>rfl⟩ b F (λ_ _ a ns hl _ hS=>⟨a,ns,rfl,hS,λ_=>rfl⟩) λ_ _ _ _ _ z=>z
end K57
end
section
namespace HD
open PySem PySem.W PySem.Calls PyProof.Rows
noncomputable def Ac{a:Type}:List a->List a×List a|[]=>([],[])|x::r=>(x::(Ac r).2,(Ac r).1)
noncomputable def Q9:Nat->List Obj->BT|0,_=> .nil|_+1,[]=> .nil|n+1,x::r=> .node x (Q9 n (Ac r).1) (Q9 n (Ac r).2)
noncomputable def mkT(l:List Obj):BT:=Q9 14 l
noncomputable def i(n:Nat):Value:= .int (.ofNat n) 0
noncomputable def view(p:Program)(l:List Stmt):Program:={p with main:={p.main with body:=l}}
noncomputable abbrev lG(a:Type):Type:=World->(OsState->a)×(OsState->a)
def Ok{a:Type}(q:lG a):Prop:=∀w,(q w).1=(q w).2
theorem ie{b:Type}{q a:lG b}(e:q=a)(h:∀w,(a w).1=(a w).2):Ok q:=by subst e;exact h
theorem GY{f:Type}{q a b:lG f}(r:String)(c:(λw=>q (w.withFollow r false))=a)(d:(λw=>q (w.withFollow r true))=b)(e:∀w,(a w).1=(a w).2)(ht:∀w,(b w).1=(b w).2):Ok q:=by subst c d;exactλw=>byRow2 r (P:=λw=>(q w).1=(q w).2) e ht w
section
variable(p:Program)(m:Nat)(ann:Option Value)
noncomputable def pre(n:Nat)(S a:World->OsState->Shared)(t t':Thread):lG (Option (Shared×Thread)):=λw=>(λos=>topGo treeTable p w m ann n (S w os) t,λos=>some (a w os,t'))
noncomputable def ZV(n:Nat)(S:World->OsState->Shared)(a:World->OsState->SharedT)(b:List Stmt)(env:Env)(c:Code)(d e:Pos)(B:List Frame):lG (Option (Flow×Shared×Code×Pos)):=λw=>(λos=>segRun treeTable p w m ann 1 n (S w os) (blockOf b env c d B),λos=>some (Flow.next,(a w os).abs,c,e))
noncomputable def seg(n:Nat)(S a:World->OsState->SharedT)(l:List Stmt)(env:Env)(c:Code)(b d:Pos)(B:List Frame):lG (Option (Flow×SharedT×Code×Pos)):=λw=>(λos=>segRunT treeTable p w m ann 1 n (S w os) (piecesOf l env c b B),λos=>some (Flow.next,a w os,c,d))
noncomputable def fin(n:Nat)(S:World->OsState->SharedT)(a:World->OsState->Shared)(t:Thread):lG (Option Shared):=λw=>(λos=>topRun treeTable p w m ann n (S w os).abs t,λos=>some (a w os))
variable{p:Program}{m:Nat}{ann:Option Value}
def Goes(p:Program)(m:Nat)(ann:Option Value)(R:World->OsState->Shared)(n:Nat)(S:World->OsState->Shared)(t:Thread):Prop:=∀w os,topRun treeTable p w m ann n (S w os) t=some (R w os)
noncomputable def NR(S:World->OsState->SharedT):World->OsState->Shared:=λw os=>(S w os).abs
theorem Xv{n:Nat}{S:World->OsState->SharedT}{R:World->OsState->Shared}{env:Env}{c:Code}{a q:Pos}(h:Ok (fin p m ann n S R ⟨doneF .next,c,a,[topFrame q]⟩)):Goes p m ann R n (NR S) (restOf [] env c a [topFrame q]):=λw os=>piece_nil (congrFun (h w) os)
theorem jX{n N:Nat}{S a:World->OsState->SharedT}{R:World->OsState->Shared}{l rest:List Stmt}{env:Env}{c:Code}{b d q:Pos}(h:Ok (seg p m ann n S a l env c b d [topFrame q]))(k:Goes p m ann R N (NR a) (restOf rest env c d [topFrame q])):Goes p m ann R (n+N) (NR S) (restOf (l++rest) env c b [topFrame q]):=λw os=>piece_app (segRun_of (congrFun (h w) os)) (k w os)
theorem Wk{n N:Nat}{S:World->OsState->Shared}{a:World->OsState->SharedT}{R:World->OsState->Shared}{b c:List Stmt}{env:Env}{d f q:Pos}(e:b=c)(h:Ok (ZV p m ann n S a b env (.body b env) d f [topFrame q]))(k:Goes p m ann R N (NR a) (restOf c env (.body b env) f [topFrame q])):Goes p m ann R (n+N) S ⟨denote treeTable (.body b env), .body b env,d,[topFrame q]⟩:=λw os=>by subst e;exact piece_block (congrFun (h w) os) (k w os)
theorem XS{n N:Nat}{S a R:World->OsState->Shared}{t t':Thread}(h:Ok (pre p m ann n S a t t'))(k:Goes p m ann R N a t'):Goes p m ann R (n+N) S t:=λw os=>go_top (congrFun (h w) os) (k w os)
end
noncomputable def sz(m:Nat)(a:Option Value):lG (Bool×Nat×Option Value):=λw=>(λ_=>((boot_heap w.params).isNs mainGlobals&&(Array.mk []:Array GenState).size==0,(boot_heap w.params).objs.size,(boot_heap w.params).nsMap mainGlobals "__annotations__"),λ_=>(true,m,a))
noncomputable def Vs(H:Params->Heap)(d:Drawn)(k:Nat):World->OsState->Shared:=λw os=>⟨H w.params,Array.mk [],d,k,os⟩
noncomputable def la(p:Program)(H₁:Params->Heap)(d:Drawn)(k:Nat):lG Bool:=λw=>(λos=>(staticsOk (importedModules p.main.body) (boot_heap w.params) (H₁ w.params)&&namesBound p (H₁ w.params)&&gensDone ⟨H₁ w.params,Array.mk [],d,k,os⟩&&laidKept (boot_heap w.params) (H₁ w.params)),λ_=>true)
noncomputable def lb(p q:Program)(loose:List Str)(Xt:Shared->Bool)(H₁:Params->Heap)(d:Drawn)(k:Nat):=λ(w:World)=>((λ(os:OsState)=>openSeen q loose (importedModules p.main.body) Xt true ⟨H₁ w.params,Array.mk [],d,k,os⟩),(λ(_:OsState)=>openGood q loose))
noncomputable def lc(H:Hook)(H₁:Params->Heap)(d:Drawn)(k:Nat):lG H.α:=λw=>(λos=>H.obs ⟨H₁ w.params,Array.mk [],d,k,os⟩,λ_=>H.val w)
theorem left{p q:Program}{loose:List Str}{Xt:Shared->Bool}{H:Hook}{N m M:Nat}{a:Option Value}{H₁:Params->Heap}{d:Drawn}{k:Nat}(e:opening p=plainProg p.main.scope.names)(b:Nat.ble 600 N=true)(f:∀s,fenceModules? p s=some s)(size:Ok (sz m a))(run:Goes p m a (Vs H₁ d k) M (Vs boot_heap boot_drawn boot_toks) (topStub p))(le:Nat.ble M N=true)(ha:Ok (la p H₁ d k))(hb:Ok (lb p q loose Xt H₁ d k))(hc:Ok (lc H H₁ d k)):LeftO p q loose Xt H.obs H.val N:=LeftO.of_pieces (H₀:=boot_heap) (H₁:=H₁) (boot_open e b f) (λw=>congrFun (size w) default) run le λw=>funext λos=>looks_pair (congrFun (ha w) os) (looks_pair (congrFun (hb w) os) (congrFun (hc w) os))
noncomputable def tp(l:List Value):Obj:=⟨.type "tuple",none, .seq l.toArray 0,#[]⟩
noncomputable def fl(l:List Value):Obj:=⟨.none,none, .fields l.toArray,#[]⟩
noncomputable def e(P:Params)(x:Str)(n:Nat)(v:Value):DictEntry:=⟨PyData.keyHash P x, .str x n,v⟩
noncomputable def dc(l:List DictEntry)(n:Nat):Obj:=⟨.type "dict",none, .dict l.toArray n,#[]⟩
noncomputable def dm(o:Obj)(l:List DictEntry)(n:Nat):Obj:=match o.data with| .dict a _=>dc (a.toList++l) n|_=>o
noncomputable def fa(o:Obj)(l:List Value):Obj:=match o.data with| .fields a=>fl (a.toList++l)|_=>o
noncomputable abbrev F4:Type:=Option (Flow×SharedT×Code×Pos)
noncomputable def cd(n q f:Str)(a b c:Nat)(e g h j k r:Nat)(t:Bool)(m s:Nat)(l o p u:Value)(y z d:Nat):Obj:=⟨.type "code",none, .fields #[.str n a, .str q b, .str f c,i e,i g,i h,i j,i k, .ref r, .bool t,i m, .ref s,l,o,p,u,i y,i z, .str f d],#[]⟩
noncomputable def fs(n q:Str)(s:Stmt):Obj:=⟨.none,none, .func ⟨n,q,L2.cQ s, .stmts (L2.bG s),L2.ak s,0,[], .none, .none, .none, .none,none, .none, .none,0⟩,#[]⟩
noncomputable def fu(n q:Str)(s:Stmt)(m:Str)(k c:Nat):Obj:=⟨.type "function",none, .func ⟨n,q,L2.cQ s, .stmts (L2.bG s),L2.ak s,3,[], .none, .none, .none, .str m k,none, .ref c, .none,0⟩,#[]⟩
noncomputable def fm(a b c:Nat)(m:Str)(k:Nat):Obj:=⟨.type "frame",none, .plain,#[some (.ref a),some (.ref b),some (.ref c),none,some (.str m k),none,some (.ref 0)]⟩
noncomputable def bm(v w:Value):Obj:=⟨.type "builtin_function_or_method",none, .fields #[v,w],#[]⟩
noncomputable def su(a:Nat):Obj:=⟨.type "super",none, .fields #[.ref a, .ref a, .ref a],#[]⟩
noncomputable def cl(n:Str)(b m:List Value)(d:Nat)(s:List Value)(t k j:Nat)(v:Value):Obj:=⟨.type "type",none, .cls ⟨n,b,m,d,n,true,[],s,false,none,false⟩,#[some (.ref t),none,some (.str n k),some (.str n j),some v,some (.bool true)]⟩
noncomputable def sb(o:Obj)(l:List Value):Obj:=match o with|⟨c,d, .cls x,t⟩=>⟨c,d, .cls {x with subclasses:=x.subclasses++l},t⟩|_=>o
noncomputable def um(l:List Obj):BT->Nat->BT:=@List.rec Obj (λ_=>BT->Nat->BT) (λt _=>t) (λo _ b t a=>b (t.ins a o) (Nat.succ a)) l
end HD
end
section
namespace K57
open PySem PySem.W PySem.Calls PyProof.Rows
noncomputable abbrev pw:Program:=PySem.Challenge.pw_keeper_k57_whole_read_of_shown
noncomputable def ht(i:Nat):Stmt:=pw.main.body.getD i (.Pass ⟨0,0,0,0⟩)
noncomputable def Yb:Str:= .ofString "__name__"
noncomputable def LG:Str:= .ofString "__doc__"
noncomputable def UM:Str:= .ofString "__package__"
noncomputable def XG:Str:= .ofString "__loader__"
noncomputable def X5:Str:= .ofString "__spec__"
noncomputable def Zx9:Str:= .ofString "all"
noncomputable def aa8:Str:= .ofString "next"
noncomputable def O0:Str:= .ofString "__main__"
noncomputable def Ay:Str:= .ofString "__annotations__"
noncomputable def Bi:Str:= .ofString "__builtins__"
noncomputable def Bz:Str:= .ofString "__file__"
noncomputable def aU:Str:= .ofString "/claim/cut.py"
noncomputable def AZ:Str:= .ofString "__cached__"
noncomputable def Qe:Str:= .ofString "<module>"
noncomputable def jB:Str:= .ofString "_wall"
noncomputable def Yt:Str:= .ofString "k"
noncomputable def fA:Str:= .ofString "keeper.errors"
noncomputable def mh:Str:= .ofString "KeeperError"
noncomputable def jY:Str:= .ofString "__module__"
noncomputable def A1:Str:= .ofString "__qualname__"
noncomputable def j0:Str:= .ofString "__firstlineno__"
noncomputable def dW:Str:= .ofString "small_name"
noncomputable def j6:Str:= .ofString "__static_attributes__"
noncomputable def lY:Str:= .ofString "self"
noncomputable def Jy:Str:= .ofString "KeeperError.small_name"
noncomputable def ES:Str:= .ofString "__weakref__"
noncomputable def lU:Str:= .ofString "Great"
noncomputable def JI:Str:= .ofString "Great.small_name"
noncomputable def lQ:Str:= .ofString "NoVariable"
noncomputable def Kj:Str:= .ofString "NoVariable.small_name"
noncomputable def oo:Str:= .ofString "NoText"
noncomputable def Jl:Str:= .ofString "NoText.small_name"
noncomputable def nS:Str:= .ofString "keeper.things"
noncomputable def EE:Str:= .ofString "MOST_KNOTS"
noncomputable def E1:Str:= .ofString "MOST_DEEP"
noncomputable def Gd:Str:= .ofString "MOST_VARIABLE"
noncomputable def FP:Str:= .ofString "MOST_LETTERS"
noncomputable def EL:Str:= .ofString "LETTERS"
noncomputable def FF:Str:= .ofString "abcdefghijklmnopqrstuvwxyz"
noncomputable def Fh:Str:= .ofString "KIND_WORDS"
noncomputable def Px:Str:= .ofString "nat"
noncomputable def PN:Str:= .ofString "none"
noncomputable def Lm:Str:= .ofString "some"
noncomputable def Od:Str:= .ofString "same"
noncomputable def Ew:Str:= .ofString "KIDS_DUE"
noncomputable def UY:Str:= .ofString "var"
noncomputable def OK:Str:= .ofString "fun"
noncomputable def Xk:Str:= .ofString "app"
noncomputable def XB:Str:= .ofString "zero"
noncomputable def OF:Str:= .ofString "rec"
noncomputable def Vp:Str:= .ofString "like"
noncomputable def Qo:Str:= .ofString "carry"
noncomputable def UK:Str:= .ofString "never"
noncomputable def YB:Str:= .ofString "pair"
noncomputable def Vf:Str:= .ofString "first"
noncomputable def U_:Str:= .ofString "second"
noncomputable def qW:Str:= .ofString "name"
noncomputable def ji:Str:= .ofString "kind"
noncomputable def fw:Str:= .ofString "term"
noncomputable def Jq:Str:= .ofString "BINDER_OVER"
noncomputable def lD:Str:= .ofString "is_name"
noncomputable def mf:Str:= .ofString "is_vast"
noncomputable def l_:Str:= .ofString "kids_of"
noncomputable def j_:Str:= .ofString "thing"
noncomputable def mq:Str:= .ofString "binds_of"
noncomputable def mP:Str:= .ofString "depth_of"
noncomputable def mz:Str:= .ofString "top_variable"
noncomputable def mw:Str:= .ofString "bounded"
noncomputable def OB:Str:= .ofString "keeper.putting"
noncomputable def mH:Str:= .ofString "numbers_free"
noncomputable def O2:Str:= .ofString "binders"
noncomputable def WJ:Str:= .ofString "numbers"
noncomputable def Jm:Str:= .ofString "kid"
noncomputable def Qp:Str:= .ofString "bound"
noncomputable def lT:Str:= .ofString "free_in"
noncomputable def qZ:Str:= .ofString "keeper.showing"
noncomputable def mC:Str:= .ofString "names_in"
noncomputable def VG:Str:= .ofString "found"
noncomputable def om:Str:= .ofString "name_after"
noncomputable def We:Str:= .ofString "stem"
noncomputable def UU:Str:= .ofString "rest"
noncomputable def ou:Str:= .ofString "names_left"
noncomputable def Lx:Str:= .ofString "count"
noncomputable def Pc:Str:= .ofString "taken"
noncomputable def Oa:Str:= .ofString "left"
noncomputable def oR:Str:= .ofString "number_told"
noncomputable def VJ:Str:= .ofString "here"
noncomputable def n8:Str:= .ofString "text_of"
noncomputable def Wd:Str:= .ofString "around"
noncomputable def Pj:Str:= .ofString "number"
noncomputable def XZ:Str:= .ofString "kids"
noncomputable def OH:Str:= .ofString "parts"
noncomputable def Wn:Str:= .ofString "inner"
noncomputable def oX:Str:= .ofString "shown"
noncomputable def uM:Str:= .ofString "names"
noncomputable def WO:Str:= .ofString "free"
noncomputable def Vy:Str:= .ofString "keeper.words"
noncomputable def og:Str:= .ofString "words_of"
noncomputable def eY:Str:= .ofString "keeper.reading"
noncomputable def N7:Str:= .ofString "FIGURES"
noncomputable def Oz:Str:= .ofString "0123456789"
noncomputable def Qs:Str:= .ofString "MOST_FIGURE"
noncomputable def mE:Str:= .ofString "Form"
noncomputable def BK:Str:= .ofString "__init__"
noncomputable def BY:Str:= .ofString "binds_here"
noncomputable def Cs:Str:= .ofString "is_full"
noncomputable def AD:Str:= .ofString "take"
noncomputable def vx:Str:= .ofString "closed"
noncomputable def vc:Str:= .ofString "word"
noncomputable def F3:Str:= .ofString "due"
noncomputable def Kn:Str:= .ofString "Form.__init__"
noncomputable def Im:Str:= .ofString "Form.binds_here"
noncomputable def Lh:Str:= .ofString "Form.is_full"
noncomputable def Ln:Str:= .ofString "Form.take"
noncomputable def Io:Str:= .ofString "Form.closed"
noncomputable def Qa:Str:= .ofString "__dict__"
noncomputable def nO:Str:= .ofString "form_of"
noncomputable def Yu:Str:= .ofString "head"
noncomputable def sH:Str:= .ofString "thing_named"
noncomputable def Jr:Str:= .ofString "forms"
noncomputable def PD:Str:= .ofString "form"
noncomputable def tw:Str:= .ofString "is_figure"
noncomputable def tU:Str:= .ofString "count_of"
noncomputable def rl:Str:= .ofString "leaf_of"
noncomputable def rC:Str:= .ofString "read_thing"
noncomputable def Jo:Str:= .ofString "text"
noncomputable def Ve:Str:= .ofString "words"
noncomputable def Vz:Str:= .ofString "whole"
noncomputable def U4:Str:= .ofString "place"
noncomputable def rm:Str:= .ofString "read_term"
noncomputable def sW:Str:= .ofString "read_kind"
noncomputable def gM:Str:= .ofString "law_keeper_k57_whole_read_of_shown"
noncomputable def tu:Str:= .ofString "_law_cell_at"
noncomputable def K6:Str:= .ofString "_law_script"
noncomputable def AG:Str:= .ofString "_law_k"
noncomputable def tm:Str:= .ofString "_law_shape"
noncomputable def Iz:Str:= .ofString "_law_word"
noncomputable def tV:Str:= .ofString "_law_leaf"
noncomputable def IT:Str:= .ofString "_law_cell"
noncomputable def A6:Str:= .ofString "_law_want"
noncomputable def Ld:Str:= .ofString "_law_over"
noncomputable def ON:Str:= .ofString "_law_state"
noncomputable def HZ:Str:= .ofString "_law_many"
noncomputable def sM:Str:= .ofString "_law_thing_here"
noncomputable def sF:Str:= .ofString "_law_bound"
noncomputable def sk:Str:= .ofString "_law_thing"
noncomputable def N9:Str:= .ofString "_law_deep_here"
noncomputable def Vr:Str:= .ofString "_law_forms"
noncomputable def UJ:Str:= .ofString "_law_kids"
noncomputable def WT:Str:= .ofString "_law_under"
noncomputable def tS:Str:= .ofString "_law_greatest"
noncomputable def OJ:Str:= .ofString "_law_found"
noncomputable def so:Str:= .ofString "_law_knots"
noncomputable def Kl:Str:= .ofString "_law_part"
noncomputable def sE:Str:= .ofString "_law_deep"
noncomputable def sr:Str:= .ofString "_law_read"
noncomputable def OE:Str:= .ofString "_law_line"
noncomputable def OP:Str:= .ofString "_law_names_here"
noncomputable def rV:Str:= .ofString "_law_more"
noncomputable def sP:Str:= .ofString "_law_kept"
noncomputable def rO:Str:= .ofString "_law_names"
noncomputable def qR:Str:= .ofString "law"
noncomputable def W9:Str:= .ofString "_law_kept_here"
noncomputable def XH:Str:= .ofString "_law_other"
noncomputable def VD:Str:= .ofString "_law_far"
variable(P:Params)
noncomputable def ir:Env:={scope:=pw.main.scope,locals:=mainNs,globals:=mainNs,cells:=[],code:=(.ref 13),frame:=some (nat_lit 14)}
noncomputable def d3:Code:= .body (behindTheImports pw) ir
noncomputable def gR:List Frame:=[topFrame ⟨0,0,0,0⟩]
noncomputable abbrev Zd:World->OsState->Shared:=HD.Vs boot_heap boot_drawn boot_toks
def ae:=HD.tp []
def aB:=HD.fl []
def KU:=HD.cd Qe Qe aU 182 183 184 1 0 0 0 0 11 false 181 12 .none .none .none .none 185 1 186
def Lv:=HD.fm 13 3 3 O0 164
noncomputable def WI(r:List (Obj)):List (Obj):=PySem.W.boot_o_0 P::PySem.W.boot_o_1 P::PySem.W.boot_o_2 P::PySem.W.boot_o_3 P::PySem.W.boot_o_4 P::PySem.W.boot_o_5 P::PySem.W.boot_o_6 P::PySem.W.boot_o_7 P::PySem.W.boot_o_8 P::PySem.W.boot_o_9 P::PySem.W.boot_o_10 P::ae::r
noncomputable def Wt(r:List (Obj)):List (Obj):=aB::KU::Lv::r
noncomputable def ZHa(P:Params):Heap:=⟨Array.mk (WI P (Wt [])),⟨[],[],[],0,[],[],false,#[],[],0,false,false,false,(.ofNat 0),[(.ofNat 2000),(.ofNat 10),(.ofNat 10)],false,0,true,[],[],0,false⟩⟩
noncomputable def Zda:Drawn:=⟨0,0,0,0⟩
noncomputable def Zka:Nat:=nat_lit 187
noncomputable abbrev Ug:World->OsState->Shared:=HD.Vs ZHa Zda Zka
noncomputable def Zqa:HD.lG (Option (Shared×Thread)):=λw=>(λos=>topGo treeTable pw w (nat_lit 11) (some (.ref 6)) (nat_lit 12) (Zd w os) (topStub pw),λos=>some (Ug w os,Thread.mk (denote treeTable d3) d3 ⟨0,0,0,0⟩ gR))
theorem RP:HD.pre pw (nat_lit 11) (some (.ref 6)) (nat_lit 12) Zd Ug (topStub pw) (Thread.mk (denote treeTable d3) d3 ⟨0,0,0,0⟩ gR)=Zqa:=by kernel_rfl
name_quick Qb for Zqa by RP
theorem Zia(w:World):(Fast.Qb w).1=(Fast.Qb w).2:=by kernel_rfl
theorem Zha:HD.Ok (HD.pre pw (nat_lit 11) (some (.ref 6)) (nat_lit 12) Zd Ug (topStub pw) (Thread.mk (denote treeTable d3) d3 ⟨0,0,0,0⟩ gR)):=HD.ie Fast.Qb_eq Zia
noncomputable def Xb(r:List (Obj)):List (Obj):=PySem.W.boot_o_0 P::PySem.W.boot_o_1 P::PySem.W.boot_o_2 P::PySem.W.boot_o_3 P::PySem.W.boot_o_4 P::PySem.W.boot_o_5 P::PySem.W.boot_o_6 P::PySem.W.boot_o_7 P::PySem.W.boot_o_8 P::PySem.W.boot_o_9 P::PySem.W.boot_o_10 P::ae::r
noncomputable def YA(r:List (Obj)):List (Obj):=aB::KU::Lv::r
noncomputable def ZTb(P:Params):BT:=HD.mkT (Xb P (YA []))
noncomputable def sm:Life:=⟨[],[],[],0,[],[],false,#[],[],0,false,false,false,(.ofNat 0),[(.ofNat 2000),(.ofNat 10),(.ofNat 10)],false,0,true,[],[],0,false⟩
noncomputable abbrev Ua(w:World)(os:OsState):SharedT:=⟨ZTb w.params,nat_lit 15,sm,Array.mk [],⟨0,0,0,0⟩,nat_lit 187,os⟩
noncomputable def Zqb:HD.lG (Option (Flow×Shared×Code×Pos)):=λw=>(λos=>segRun treeTable pw w (nat_lit 11) (some (.ref 6)) (nat_lit 1) (nat_lit 1) (Ug w os) (blockOf (behindTheImports pw) ir d3 ⟨0,0,0,0⟩ gR),λos=>some (Flow.next,(Ua w os).abs,d3,⟨0,0,0,0⟩))
theorem RE:HD.ZV pw (nat_lit 11) (some (.ref 6)) (nat_lit 1) Ug Ua (behindTheImports pw) ir d3 ⟨0,0,0,0⟩ ⟨0,0,0,0⟩ gR=Zqb:=by kernel_rfl
name_quick OX for Zqb by RE
theorem Zib(w:World):(Fast.OX w).1=(Fast.OX w).2:=by kernel_rfl
theorem Zhb:HD.Ok (HD.ZV pw (nat_lit 11) (some (.ref 6)) (nat_lit 1) Ug Ua (behindTheImports pw) ir d3 ⟨0,0,0,0⟩ ⟨0,0,0,0⟩ gR):=HD.ie Fast.OX_eq Zib
def XR:=HD.dc [HD.e P Yb 165 (.str fA 194),HD.e P LG 166 .none,HD.e P UM 167 .none,HD.e P XG 168 (.builtin "__main__.__loader__#opaque"),HD.e P X5 169 .none,HD.e P Ay 170 (.ref 6),HD.e P Bi 171 (.ref 4),HD.e P Bz 173 (.str aU 172),HD.e P AZ 174 .none,HD.e P jB 193 (.ref 21),HD.e P mh 220 (.ref 38)] 11
def OC:=HD.fl [(HD.i 1),(HD.i 0),(.ref 20),(HD.i 5),(HD.i 0),(.ref 27)]
def Gf:=HD.tp [(.str Yt 190)]
def Oc:=HD.fs jB jB (ht 0)
def ER:=HD.cd jB jB aU 187 188 189 1 1 0 0 3 15 true 181 16 .none (.ref 17) (.ref 18) (.ref 19) 191 1 192
def Fp:=HD.fu jB jB (ht 0) O0 164 20
def D6:=HD.tp [(.type "ValueError")]
def j4:=HD.bm (.builtin "type.__prepare__") (.type "type")
def Og:=HD.dc [HD.e P jY 203 (.str fA 194),HD.e P A1 205 (.str mh 204),HD.e P j0 207 (.int (.ofNat 5) 206),HD.e P dW 214 (.ref 35),HD.e P j6 215 (.ref 36)] 5
def PR:=HD.fl [(HD.i 7),(HD.i 4),(.ref 34)]
def Pk:=HD.cd mh mh aU 198 199 200 5 0 0 0 0 25 false 181 26 .none .none .none .none 201 5 202
def Pu:=HD.fm 27 3 24 fA 194
def Ep:=HD.tp [(.str lY 211)]
def Qi:=HD.fs dW Jy (L2.inClass (ht 2) 0)
def Ej:=HD.cd dW Jy aU 208 209 210 7 1 0 0 3 29 true 181 30 .none (.ref 31) (.ref 32) (.ref 33) 212 7 213
def D5:=HD.fu dW Jy (L2.inClass (ht 2) 0) fA 194 34
def DZ:=HD.dc [HD.e P jY 203 (.str fA 194),HD.e P j0 207 (.int (.ofNat 5) 206),HD.e P dW 214 (.ref 35),HD.e P j6 215 (.ref 36),HD.e P ES 217 (.ref 39),HD.e P LG 218 .none] 3
def OD:=HD.cl mh [(.type "ValueError")] [(.ref 38),(.type "ValueError"),(.type "Exception"),(.type "BaseException"),(.type "object")] 37 [] 22 196 204 (.builtin "ValueError.__new__")
noncomputable def Ga:Obj:=⟨(.type "getset_descriptor"),none,(.fields #[(.str ES 216),(.ref 38),(.builtin "ExceptionGroup.__weakref__"), .none]),#[]⟩
def Oj:=HD.su 38
def P_:=HD.bm (.builtin "object.__init_subclass__") (.ref 38)
noncomputable def Za:List Stmt:=[ht 0,ht 1,ht 2]
noncomputable def ZT1(P:Params):BT:=(HD.um [ae,aB,Gf,ae,Oc,ER,Fp,D6,j4,Og P,ae,PR,Pk,Pu,ae,aB,Ep,ae,Qi,Ej,D5,ae,DZ P,OD,Ga,Oj,P_] (((ZTb P).ins (nat_lit 3) (XR P)).ins (nat_lit 12) (OC)) (nat_lit 15))
noncomputable abbrev T_(w:World)(os:OsState):SharedT:=⟨ZT1 w.params,nat_lit 42,sm,Array.mk [],⟨0,0,0,0⟩,nat_lit 221,os⟩
noncomputable def Zq1:HD.lG (HD.F4):=λw=>(λos=>segRunT treeTable pw w (nat_lit 11) (some (.ref 6)) (nat_lit 1) (nat_lit 255) (Ua w os) (piecesOf Za ir d3 ⟨0,0,0,0⟩ gR),λos=>some (Flow.next,T_ w os,d3,⟨5,0,8,16⟩))
theorem Sn:HD.seg pw (nat_lit 11) (some (.ref 6)) (nat_lit 255) Ua T_ Za ir d3 ⟨0,0,0,0⟩ ⟨5,0,8,16⟩ gR=Zq1:=by kernel_rfl
name_quick Ph for Zq1 by Sn
theorem Zi1(w:World):(Fast.Ph w).1=(Fast.Ph w).2:=by kernel_rfl
theorem Zh1:HD.Ok (HD.seg pw (nat_lit 11) (some (.ref 6)) (nat_lit 255) Ua T_ Za ir d3 ⟨0,0,0,0⟩ ⟨5,0,8,16⟩ gR):=HD.ie Fast.Ph_eq Zi1
def UW:=HD.dm (XR P) [HD.e P lU 243 (.ref 58)] 12
def O9:=HD.fa (OC) [(HD.i 9),(HD.i 0),(.ref 47)]
def PU:=HD.sb (OD) [(.ref 58)]
def iS:=HD.tp [(.ref 38)]
def Pm:=HD.dc [HD.e P jY 228 (.str fA 194),HD.e P A1 230 (.str lU 229),HD.e P j0 232 (.int (.ofNat 9) 231),HD.e P dW 239 (.ref 55),HD.e P j6 240 (.ref 56)] 5
def OQ:=HD.fl [(HD.i 11),(HD.i 4),(.ref 54)]
def P9:=HD.cd lU lU aU 223 224 225 9 0 0 0 0 45 false 181 46 .none .none .none .none 226 9 227
def Qj:=HD.fm 47 3 44 fA 194
def EI:=HD.tp [(.str lY 236)]
def Qm:=HD.fs dW JI (L2.inClass (ht 3) 0)
def D7:=HD.cd dW JI aU 233 234 235 11 1 0 0 3 49 true 181 50 .none (.ref 51) (.ref 52) (.ref 53) 237 11 238
def ED:=HD.fu dW JI (L2.inClass (ht 3) 0) fA 194 54
def F_:=HD.dc [HD.e P jY 228 (.str fA 194),HD.e P j0 232 (.int (.ofNat 9) 231),HD.e P dW 239 (.ref 55),HD.e P j6 240 (.ref 56),HD.e P LG 241 .none] 2
def Fy:=HD.cl lU [(.ref 38)] [(.ref 58),(.ref 38),(.type "ValueError"),(.type "Exception"),(.type "BaseException"),(.type "object")] 57 [] 42 221 229 (.builtin "ValueError.__new__")
def OW:=HD.su 58
def Oy:=HD.bm (.builtin "object.__init_subclass__") (.ref 58)
noncomputable def YF:List Stmt:=[ht 3]
noncomputable def ZT2(P:Params):BT:=(HD.um [iS,j4,Pm P,ae,OQ,P9,Qj,ae,aB,EI,ae,Qm,D7,ED,ae,F_ P,Fy,OW,Oy] ((((ZT1 P).ins (nat_lit 3) (UW P)).ins (nat_lit 12) (O9)).ins (nat_lit 38) (PU)) (nat_lit 42))
noncomputable abbrev T3(w:World)(os:OsState):SharedT:=⟨ZT2 w.params,nat_lit 61,sm,Array.mk [],⟨0,0,0,0⟩,nat_lit 244,os⟩
noncomputable def Zq2:HD.lG (HD.F4):=λw=>(λos=>segRunT treeTable pw w (nat_lit 11) (some (.ref 6)) (nat_lit 1) (nat_lit 244) (T_ w os) (piecesOf YF ir d3 ⟨5,0,8,16⟩ gR),λos=>some (Flow.next,T3 w os,d3,⟨9,0,12,16⟩))
theorem Tw:HD.seg pw (nat_lit 11) (some (.ref 6)) (nat_lit 244) T_ T3 YF ir d3 ⟨5,0,8,16⟩ ⟨9,0,12,16⟩ gR=Zq2:=by kernel_rfl
name_quick Qg for Zq2 by Tw
theorem Zi2(w:World):(Fast.Qg w).1=(Fast.Qg w).2:=by kernel_rfl
theorem Zh2:HD.Ok (HD.seg pw (nat_lit 11) (some (.ref 6)) (nat_lit 244) T_ T3 YF ir d3 ⟨5,0,8,16⟩ ⟨9,0,12,16⟩ gR):=HD.ie Fast.Qg_eq Zi2
def Z5:=HD.dm (UW P) [HD.e P lQ 266 (.ref 77)] 13
def Pr:=HD.fa (O9) [(HD.i 13),(HD.i 0),(.ref 66)]
def Ow:=HD.sb (PU) [(.ref 77)]
def OO:=HD.dc [HD.e P jY 251 (.str fA 194),HD.e P A1 253 (.str lQ 252),HD.e P j0 255 (.int (.ofNat 13) 254),HD.e P dW 262 (.ref 74),HD.e P j6 263 (.ref 75)] 5
def Qc:=HD.fl [(HD.i 15),(HD.i 4),(.ref 73)]
def Qn:=HD.cd lQ lQ aU 246 247 248 13 0 0 0 0 64 false 181 65 .none .none .none .none 249 13 250
def P7:=HD.fm 66 3 63 fA 194
def Fq:=HD.tp [(.str lY 259)]
def Pq:=HD.fs dW Kj (L2.inClass (ht 4) 0)
def EH:=HD.cd dW Kj aU 256 257 258 15 1 0 0 3 68 true 181 69 .none (.ref 70) (.ref 71) (.ref 72) 260 15 261
def FA:=HD.fu dW Kj (L2.inClass (ht 4) 0) fA 194 73
def Ey:=HD.dc [HD.e P jY 251 (.str fA 194),HD.e P j0 255 (.int (.ofNat 13) 254),HD.e P dW 262 (.ref 74),HD.e P j6 263 (.ref 75),HD.e P LG 264 .none] 2
def EZ:=HD.cl lQ [(.ref 38)] [(.ref 77),(.ref 38),(.type "ValueError"),(.type "Exception"),(.type "BaseException"),(.type "object")] 76 [] 61 244 252 (.builtin "ValueError.__new__")
def PV:=HD.su 77
def OV:=HD.bm (.builtin "object.__init_subclass__") (.ref 77)
noncomputable def YO:List Stmt:=[ht 4]
noncomputable def ZT3(P:Params):BT:=(HD.um [iS,j4,OO P,ae,Qc,Qn,P7,ae,aB,Fq,ae,Pq,EH,FA,ae,Ey P,EZ,PV,OV] ((((ZT2 P).ins (nat_lit 3) (Z5 P)).ins (nat_lit 12) (Pr)).ins (nat_lit 38) (Ow)) (nat_lit 61))
noncomputable abbrev Uj(w:World)(os:OsState):SharedT:=⟨ZT3 w.params,nat_lit 80,sm,Array.mk [],⟨0,0,0,0⟩,nat_lit 267,os⟩
noncomputable def Zq3:HD.lG (HD.F4):=λw=>(λos=>segRunT treeTable pw w (nat_lit 11) (some (.ref 6)) (nat_lit 1) (nat_lit 244) (T3 w os) (piecesOf YO ir d3 ⟨9,0,12,16⟩ gR),λos=>some (Flow.next,Uj w os,d3,⟨13,0,16,16⟩))
theorem Qz:HD.seg pw (nat_lit 11) (some (.ref 6)) (nat_lit 244) T3 Uj YO ir d3 ⟨9,0,12,16⟩ ⟨13,0,16,16⟩ gR=Zq3:=by kernel_rfl
name_quick Om for Zq3 by Qz
theorem Zi3(w:World):(Fast.Om w).1=(Fast.Om w).2:=by kernel_rfl
theorem Zh3:HD.Ok (HD.seg pw (nat_lit 11) (some (.ref 6)) (nat_lit 244) T3 Uj YO ir d3 ⟨9,0,12,16⟩ ⟨13,0,16,16⟩ gR):=HD.ie Fast.Om_eq Zi3
def U6:=HD.dc [HD.e P Yb 165 (.str nS 290),HD.e P LG 166 .none,HD.e P UM 167 .none,HD.e P XG 168 (.builtin "__main__.__loader__#opaque"),HD.e P X5 169 .none,HD.e P Ay 170 (.ref 6),HD.e P Bi 171 (.ref 4),HD.e P Bz 173 (.str aU 172),HD.e P AZ 174 .none,HD.e P jB 193 (.ref 21),HD.e P mh 220 (.ref 38),HD.e P lU 243 (.ref 58),HD.e P lQ 266 (.ref 77),HD.e P oo 289 (.ref 96),HD.e P EE 293 (.int (.ofNat 600) 292),HD.e P E1 295 (.int (.ofNat 40) 294),HD.e P Gd 297 (.int (.ofNat 99) 296),HD.e P FP 299 (.int (.ofNat 12) 298),HD.e P EL 301 (.str FF 300),HD.e P Fh 307 (.ref 99)] 20
def Qh:=HD.fa (Pr) [(HD.i 17),(HD.i 0),(.ref 85)]
def FG:=HD.sb (Ow) [(.ref 96)]
def OR:=HD.dc [HD.e P jY 274 (.str fA 194),HD.e P A1 276 (.str oo 275),HD.e P j0 278 (.int (.ofNat 17) 277),HD.e P dW 285 (.ref 93),HD.e P j6 286 (.ref 94)] 5
def N4:=HD.fl [(HD.i 19),(HD.i 4),(.ref 92)]
def OA:=HD.cd oo oo aU 269 270 271 17 0 0 0 0 83 false 181 84 .none .none .none .none 272 17 273
def PJ:=HD.fm 85 3 82 fA 194
def Et:=HD.tp [(.str lY 282)]
def O3:=HD.fs dW Jl (L2.inClass (ht 5) 0)
def FH:=HD.cd dW Jl aU 279 280 281 19 1 0 0 3 87 true 181 88 .none (.ref 89) (.ref 90) (.ref 91) 283 19 284
def EX:=HD.fu dW Jl (L2.inClass (ht 5) 0) fA 194 92
def EM:=HD.dc [HD.e P jY 274 (.str fA 194),HD.e P j0 278 (.int (.ofNat 17) 277),HD.e P dW 285 (.ref 93),HD.e P j6 286 (.ref 94),HD.e P LG 287 .none] 2
def EG:=HD.cl oo [(.ref 38)] [(.ref 96),(.ref 38),(.type "ValueError"),(.type "Exception"),(.type "BaseException"),(.type "object")] 95 [] 80 267 275 (.builtin "ValueError.__new__")
def P8:=HD.su 96
def Qf:=HD.bm (.builtin "object.__init_subclass__") (.ref 96)
def Fc:=HD.tp [(.str Px 302),(.str PN 303),(.str Zx9 304),(.str Lm 305),(.str Od 306)]
noncomputable def Zr:List Stmt:=[ht 5,ht 6,ht 7,ht 8,ht 9,ht 10,ht 11,ht 12]
noncomputable def ZT4(P:Params):BT:=(HD.um [iS,j4,OR P,ae,N4,OA,PJ,ae,aB,Et,ae,O3,FH,EX,ae,EM P,EG,P8,Qf,Fc] ((((ZT3 P).ins (nat_lit 3) (U6 P)).ins (nat_lit 12) (Qh)).ins (nat_lit 38) (FG)) (nat_lit 80))
noncomputable abbrev Po(w:World)(os:OsState):SharedT:=⟨ZT4 w.params,nat_lit 100,sm,Array.mk [],⟨0,0,0,0⟩,nat_lit 308,os⟩
noncomputable def Zq4:HD.lG (HD.F4):=λw=>(λos=>segRunT treeTable pw w (nat_lit 11) (some (.ref 6)) (nat_lit 1) (nat_lit 313) (Uj w os) (piecesOf Zr ir d3 ⟨13,0,16,16⟩ gR),λos=>some (Flow.next,Po w os,d3,⟨27,0,27,10⟩))
theorem Qw:HD.seg pw (nat_lit 11) (some (.ref 6)) (nat_lit 313) Uj Po Zr ir d3 ⟨13,0,16,16⟩ ⟨27,0,27,10⟩ gR=Zq4:=by kernel_rfl
name_quick Ol for Zq4 by Qw
theorem Zi4(w:World):(Fast.Ol w).1=(Fast.Ol w).2:=by kernel_rfl
theorem Zh4:HD.Ok (HD.seg pw (nat_lit 11) (some (.ref 6)) (nat_lit 313) Uj Po Zr ir d3 ⟨13,0,16,16⟩ ⟨27,0,27,10⟩ gR):=HD.ie Fast.Ol_eq Zi4
def aah:=HD.dm (U6 P) [HD.e P Ew 372 (.ref 100)] 21
def yF:=HD.dc [HD.e P Px 308 (.ref 101),HD.e P PN 310 (.ref 102),HD.e P Zx9 312 (.ref 103),HD.e P Lm 316 (.ref 104),HD.e P Od 320 (.ref 105),HD.e P UY 325 (.ref 106),HD.e P OK 327 (.ref 107),HD.e P Xk 331 (.ref 108),HD.e P XB 335 (.ref 109),HD.e P aa8 337 (.ref 110),HD.e P OF 340 (.ref 111),HD.e P Vp 346 (.ref 112),HD.e P Qo 350 (.ref 113),HD.e P UK 355 (.ref 114),HD.e P YB 359 (.ref 115),HD.e P Vf 364 (.ref 116),HD.e P U_ 367 (.ref 117),HD.e P qW 370 (.ref 119)] 18
def yy:=HD.tp [(.str ji 313),(.str ji 314)]
def vG:=HD.tp [(.str ji 317),(.str ji 318)]
def Ak:=HD.tp [(.str ji 321),(.str fw 322),(.str fw 323)]
def yn:=HD.tp [(.str ji 328),(.str fw 329)]
def yr:=HD.tp [(.str fw 332),(.str fw 333)]
def zu:=HD.tp [(.str fw 338)]
def vT:=HD.tp [(.str ji 341),(.str fw 342),(.str fw 343),(.str fw 344)]
def yl:=HD.tp [(.str ji 347),(.str fw 348)]
def wM:=HD.tp [(.str ji 351),(.str fw 352),(.str fw 353)]
def yb:=HD.tp [(.str ji 356),(.str fw 357)]
def vD:=HD.tp [(.str ji 360),(.str fw 361),(.str fw 362)]
def xj:=HD.tp [(.str fw 365)]
def Al:=HD.tp [(.str fw 368)]
def IB:=HD.dc [HD.e P qW 370 (.ref 119)] 1
noncomputable def TX:List Stmt:=[ht 13]
noncomputable def ZT5(P:Params):BT:=(HD.um [yF P,ae,ae,yy,vG,Ak,ae,yn,yr,ae,zu,vT,yl,wM,yb,vD,xj,Al,IB P,ae] ((ZT4 P).ins (nat_lit 3) (aah P)) (nat_lit 100))
noncomputable abbrev LB(w:World)(os:OsState):SharedT:=⟨ZT5 w.params,nat_lit 120,sm,Array.mk [],⟨0,0,0,0⟩,nat_lit 373,os⟩
noncomputable def Yz:HD.lG (HD.F4):=λw=>(λos=>segRunT treeTable pw (w.withFollow "special-get-raises" false) (nat_lit 11) (some (.ref 6)) (nat_lit 1) (nat_lit 340) (Po (w.withFollow "special-get-raises" false) os) (piecesOf TX ir d3 ⟨27,0,27,10⟩ gR),λos=>some (Flow.next,LB (w.withFollow "special-get-raises" false) os,d3,⟨28,0,28,8⟩))
theorem NM:(λw:World=>HD.seg pw (nat_lit 11) (some (.ref 6)) (nat_lit 340) Po LB TX ir d3 ⟨27,0,27,10⟩ ⟨28,0,28,8⟩ gR (w.withFollow "special-get-raises" false))=Yz:=by kernel_rfl
name_quick K_ for Yz by NM
theorem ZL(w:World):(Fast.K_ w).1=(Fast.K_ w).2:=by kernel_rfl
noncomputable def Xr:HD.lG (HD.F4):=λw=>(λos=>segRunT treeTable pw (w.withFollow "special-get-raises" true) (nat_lit 11) (some (.ref 6)) (nat_lit 1) (nat_lit 340) (Po (w.withFollow "special-get-raises" true) os) (piecesOf TX ir d3 ⟨27,0,27,10⟩ gR),λos=>some (Flow.next,LB (w.withFollow "special-get-raises" true) os,d3,⟨28,0,28,8⟩))
theorem Me:(λw:World=>HD.seg pw (nat_lit 11) (some (.ref 6)) (nat_lit 340) Po LB TX ir d3 ⟨27,0,27,10⟩ ⟨28,0,28,8⟩ gR (w.withFollow "special-get-raises" true))=Xr:=by kernel_rfl
name_quick Jx for Xr by Me
theorem ZP(w:World):(Fast.Jx w).1=(Fast.Jx w).2:=by kernel_rfl
theorem Zh5:HD.Ok (HD.seg pw (nat_lit 11) (some (.ref 6)) (nat_lit 340) Po LB TX ir d3 ⟨27,0,27,10⟩ ⟨28,0,28,8⟩ gR):=HD.GY "special-get-raises" Fast.K__eq Fast.Jx_eq ZL ZP
def abd:=HD.dc [HD.e P Yb 165 (.str qZ 453),HD.e P LG 166 .none,HD.e P UM 167 .none,HD.e P XG 168 (.builtin "__main__.__loader__#opaque"),HD.e P X5 169 .none,HD.e P Ay 170 (.ref 6),HD.e P Bi 171 (.ref 4),HD.e P Bz 173 (.str aU 172),HD.e P AZ 174 .none,HD.e P jB 193 (.ref 21),HD.e P mh 220 (.ref 38),HD.e P lU 243 (.ref 58),HD.e P lQ 266 (.ref 77),HD.e P oo 289 (.ref 96),HD.e P EE 293 (.int (.ofNat 600) 292),HD.e P E1 295 (.int (.ofNat 40) 294),HD.e P Gd 297 (.int (.ofNat 99) 296),HD.e P FP 299 (.int (.ofNat 12) 298),HD.e P EL 301 (.str FF 300),HD.e P Fh 307 (.ref 99),HD.e P Ew 372 (.ref 100),HD.e P Jq 388 (.ref 120),HD.e P lD 394 (.ref 125),HD.e P mf 400 (.ref 130),HD.e P l_ 407 (.ref 137),HD.e P mq 413 (.ref 142),HD.e P mP 419 (.ref 147),HD.e P mz 425 (.ref 152),HD.e P mw 432 (.ref 159),HD.e P mH 445 (.ref 166),HD.e P lT 452 (.ref 173),HD.e P mC 463 (.ref 180)] 32
def N_:=HD.fa (Qh) [(HD.i 30),(HD.i 0),(.ref 124),(HD.i 34),(HD.i 0),(.ref 129),(HD.i 46),(HD.i 0),(.ref 136),(HD.i 50),(HD.i 0),(.ref 141),(HD.i 53),(HD.i 0),(.ref 146),(HD.i 55),(HD.i 0),(.ref 151),(HD.i 59),(HD.i 0),(.ref 158),(HD.i 64),(HD.i 0),(.ref 165),(HD.i 71),(HD.i 0),(.ref 172),(HD.i 74),(HD.i 0),(.ref 179)]
def zd:=HD.dc [HD.e P Zx9 373 (.int (.ofNat 1) 374),HD.e P Lm 375 (.int (.ofNat 1) 376),HD.e P OK 377 (.int (.ofNat 1) 378),HD.e P OF 379 (.int (.ofNat 0) 380),HD.e P Qo 381 (.int (.ofNat 0) 382)] 5
def Ie:=HD.fs lD lD (ht 15)
def yH:=HD.cd lD lD aU 389 390 391 30 1 0 0 3 121 true 181 122 .none .none .none (.ref 123) 392 30 393
def yJ:=HD.fu lD lD (ht 15) nS 290 124
def Iq:=HD.fs mf mf (ht 16)
def yC:=HD.cd mf mf aU 395 396 397 34 1 0 0 3 126 true 181 127 .none .none .none (.ref 128) 398 34 399
def vH:=HD.fu mf mf (ht 16) nS 290 129
def yd:=HD.tp [(.str j_ 404)]
def Kh:=HD.fs l_ l_ (ht 17)
def xO:=HD.cd l_ l_ aU 401 402 403 46 1 0 0 3 131 true 181 132 .none (.ref 133) (.ref 134) (.ref 135) 405 46 406
def zj:=HD.fu l_ l_ (ht 17) nS 290 136
def Ly:=HD.fs mq mq (ht 18)
def yE:=HD.cd mq mq aU 408 409 410 50 1 0 0 3 138 true 181 139 .none .none .none (.ref 140) 411 50 412
def yN:=HD.fu mq mq (ht 18) nS 290 141
def Jj:=HD.fs mP mP (ht 19)
def yZ:=HD.cd mP mP aU 414 415 416 53 1 0 0 3 143 true 181 144 .none .none .none (.ref 145) 417 53 418
def zb:=HD.fu mP mP (ht 19) nS 290 146
def Iv:=HD.fs mz mz (ht 20)
def yk:=HD.cd mz mz aU 420 421 422 55 1 0 0 3 148 true 181 149 .none .none .none (.ref 150) 423 55 424
def xC:=HD.fu mz mz (ht 20) nS 290 151
def zJ:=HD.tp [(.str j_ 429)]
def KO:=HD.fs mw mw (ht 21)
def zO:=HD.cd mw mw aU 426 427 428 59 1 0 0 3 153 true 181 154 .none (.ref 155) (.ref 156) (.ref 157) 430 59 431
def xi:=HD.fu mw mw (ht 21) nS 290 158
def Am:=HD.tp [(.str j_ 438),(.str O2 439),(.str WJ 440),(.str Jm 441),(.str Qp 442)]
def HU:=HD.fs mH mH (ht 23)
def zR:=HD.cd mH mH aU 435 436 437 64 2 0 0 3 160 true 181 161 .none (.ref 162) (.ref 163) (.ref 164) 443 64 444
def yU:=HD.fu mH mH (ht 23) OB 433 165
def wa:=HD.tp [(.str j_ 449)]
def Ku:=HD.fs lT lT (ht 24)
def Ai:=HD.cd lT lT aU 446 447 448 71 1 0 0 3 167 true 181 168 .none (.ref 169) (.ref 170) (.ref 171) 450 71 451
def yT:=HD.fu lT lT (ht 24) OB 433 172
def xK:=HD.tp [(.str j_ 458),(.str VG 459),(.str Jm 460)]
def IW:=HD.fs mC mC (ht 26)
def yR:=HD.cd mC mC aU 455 456 457 74 1 0 0 3 174 true 181 175 .none (.ref 176) (.ref 177) (.ref 178) 461 74 462
def wo:=HD.fu mC mC (ht 26) qZ 453 179
noncomputable def Uh:List Stmt:=[ht 14,ht 15,ht 16,ht 17,ht 18,ht 19,ht 20,ht 21,ht 22,ht 23,ht 24,ht 25,ht 26]
noncomputable def ZT6(P:Params):BT:=(HD.um [zd P,ae,aB,Ie,yH,yJ,ae,aB,Iq,yC,vH,ae,aB,yd,ae,Kh,xO,zj,ae,aB,Ly,yE,yN,ae,aB,Jj,yZ,zb,ae,aB,Iv,yk,xC,ae,aB,zJ,ae,KO,zO,xi,ae,aB,Am,ae,HU,zR,yU,ae,aB,wa,ae,Ku,Ai,yT,ae,aB,xK,ae,IW,yR,wo] (((ZT5 P).ins (nat_lit 3) (abd P)).ins (nat_lit 12) (N_)) (nat_lit 120))
noncomputable abbrev Qr(w:World)(os:OsState):SharedT:=⟨ZT6 w.params,nat_lit 181,sm,Array.mk [],⟨0,0,0,0⟩,nat_lit 464,os⟩
noncomputable def UQ:HD.lG (HD.F4):=λw=>(λos=>segRunT treeTable pw (w.withFollow "special-get-raises" false) (nat_lit 11) (some (.ref 6)) (nat_lit 1) (nat_lit 385) (LB (w.withFollow "special-get-raises" false) os) (piecesOf Uh ir d3 ⟨28,0,28,8⟩ gR),λos=>some (Flow.next,Qr (w.withFollow "special-get-raises" false) os,d3,⟨74,0,80,16⟩))
theorem Nr:(λw:World=>HD.seg pw (nat_lit 11) (some (.ref 6)) (nat_lit 385) LB Qr Uh ir d3 ⟨28,0,28,8⟩ ⟨74,0,80,16⟩ gR (w.withFollow "special-get-raises" false))=UQ:=by kernel_rfl
name_quick IJ for UQ by Nr
theorem aao(w:World):(Fast.IJ w).1=(Fast.IJ w).2:=by kernel_rfl
noncomputable def Xc:HD.lG (HD.F4):=λw=>(λos=>segRunT treeTable pw (w.withFollow "special-get-raises" true) (nat_lit 11) (some (.ref 6)) (nat_lit 1) (nat_lit 385) (LB (w.withFollow "special-get-raises" true) os) (piecesOf Uh ir d3 ⟨28,0,28,8⟩ gR),λos=>some (Flow.next,Qr (w.withFollow "special-get-raises" true) os,d3,⟨74,0,80,16⟩))
theorem NA:(λw:World=>HD.seg pw (nat_lit 11) (some (.ref 6)) (nat_lit 385) LB Qr Uh ir d3 ⟨28,0,28,8⟩ ⟨74,0,80,16⟩ gR (w.withFollow "special-get-raises" true))=Xc:=by kernel_rfl
name_quick Ia for Xc by NA
theorem aaT(w:World):(Fast.Ia w).1=(Fast.Ia w).2:=by kernel_rfl
theorem Zh6:HD.Ok (HD.seg pw (nat_lit 11) (some (.ref 6)) (nat_lit 385) LB Qr Uh ir d3 ⟨28,0,28,8⟩ ⟨74,0,80,16⟩ gR):=HD.GY "special-get-raises" Fast.IJ_eq Fast.Ia_eq aao aaT
def Yd:=HD.dc [HD.e P Yb 165 (.str eY 526),HD.e P LG 166 .none,HD.e P UM 167 .none,HD.e P XG 168 (.builtin "__main__.__loader__#opaque"),HD.e P X5 169 .none,HD.e P Ay 170 (.ref 6),HD.e P Bi 171 (.ref 4),HD.e P Bz 173 (.str aU 172),HD.e P AZ 174 .none,HD.e P jB 193 (.ref 21),HD.e P mh 220 (.ref 38),HD.e P lU 243 (.ref 58),HD.e P lQ 266 (.ref 77),HD.e P oo 289 (.ref 96),HD.e P EE 293 (.int (.ofNat 600) 292),HD.e P E1 295 (.int (.ofNat 40) 294),HD.e P Gd 297 (.int (.ofNat 99) 296),HD.e P FP 299 (.int (.ofNat 12) 298),HD.e P EL 301 (.str FF 300),HD.e P Fh 307 (.ref 99),HD.e P Ew 372 (.ref 100),HD.e P Jq 388 (.ref 120),HD.e P lD 394 (.ref 125),HD.e P mf 400 (.ref 130),HD.e P l_ 407 (.ref 137),HD.e P mq 413 (.ref 142),HD.e P mP 419 (.ref 147),HD.e P mz 425 (.ref 152),HD.e P mw 432 (.ref 159),HD.e P mH 445 (.ref 166),HD.e P lT 452 (.ref 173),HD.e P mC 463 (.ref 180),HD.e P om 472 (.ref 187),HD.e P ou 482 (.ref 194),HD.e P oR 491 (.ref 201),HD.e P n8 506 (.ref 208),HD.e P oX 517 (.ref 215),HD.e P og 525 (.ref 220),HD.e P N7 529 (.str Oz 528),HD.e P Qs 531 (.int (.ofNat 39) 530)] 40
def N1:=HD.fa (N_) [(HD.i 81),(HD.i 0),(.ref 186),(HD.i 87),(HD.i 0),(.ref 193),(HD.i 95),(HD.i 0),(.ref 200),(HD.i 102),(HD.i 0),(.ref 207),(HD.i 120),(HD.i 0),(.ref 214),(HD.i 129),(HD.i 0),(.ref 219)]
def Ah:=HD.tp [(.str qW 467),(.str We 468),(.str UU 469)]
def Ky:=HD.fs om om (ht 27)
def wz:=HD.cd om om aU 464 465 466 81 1 0 0 3 181 true 181 182 .none (.ref 183) (.ref 184) (.ref 185) 470 81 471
def wm:=HD.fu om om (ht 27) qZ 453 186
def wC:=HD.tp [(.str Lx 476),(.str Pc 477),(.str Oa 478),(.str qW 479)]
def Kc:=HD.fs ou ou (ht 28)
def wL:=HD.cd ou ou aU 473 474 475 87 2 0 0 3 188 true 181 189 .none (.ref 190) (.ref 191) (.ref 192) 480 87 481
def zU:=HD.fu ou ou (ht 28) qZ 453 193
def wg:=HD.tp [(.str j_ 486),(.str Lx 487),(.str VJ 488)]
def Je:=HD.fs oR oR (ht 29)
def xY:=HD.cd oR oR aU 483 484 485 95 1 0 0 3 195 true 181 196 .none (.ref 197) (.ref 198) (.ref 199) 489 95 490
def Af:=HD.fu oR oR (ht 29) qZ 453 200
def xy:=HD.tp [(.str j_ 495),(.str Wd 496),(.str Oa 497),(.str Pj 498),(.str XZ 499),(.str OH 500),(.str Jm 501),(.str Qp 502),(.str Wn 503)]
def JC:=HD.fs n8 n8 (ht 30)
def vY:=HD.cd n8 n8 aU 492 493 494 102 3 0 0 3 202 true 181 203 .none (.ref 204) (.ref 205) (.ref 206) 504 102 505
def x_:=HD.fu n8 n8 (ht 30) qZ 453 207
def zI:=HD.tp [(.str j_ 510),(.str uM 511),(.str WO 512),(.str Pc 513),(.str qW 514)]
def Jp:=HD.fs oX oX (ht 31)
def wx:=HD.cd oX oX aU 507 508 509 120 2 0 0 3 209 true 181 210 .none (.ref 211) (.ref 212) (.ref 213) 515 120 516
def wZ:=HD.fu oX oX (ht 31) qZ 453 214
def JK:=HD.fs og og (ht 33)
def wX:=HD.cd og og aU 520 521 522 129 1 0 0 3 216 true 181 217 .none .none .none (.ref 218) 523 129 524
def ya:=HD.fu og og (ht 33) Vy 518 219
noncomputable def ZA:List Stmt:=[ht 27,ht 28,ht 29,ht 30,ht 31,ht 32,ht 33,ht 34,ht 35,ht 36]
noncomputable def ZT7(P:Params):BT:=(HD.um [ae,aB,Ah,ae,Ky,wz,wm,ae,aB,wC,ae,Kc,wL,zU,ae,aB,wg,ae,Je,xY,Af,ae,aB,xy,ae,JC,vY,x_,ae,aB,zI,ae,Jp,wx,wZ,ae,aB,JK,wX,ya] (((ZT6 P).ins (nat_lit 3) (Yd P)).ins (nat_lit 12) (N1)) (nat_lit 181))
noncomputable abbrev TV(w:World)(os:OsState):SharedT:=⟨ZT7 w.params,nat_lit 221,sm,Array.mk [],⟨0,0,0,0⟩,nat_lit 532,os⟩
noncomputable def Zq7:HD.lG (HD.F4):=λw=>(λos=>segRunT treeTable pw w (nat_lit 11) (some (.ref 6)) (nat_lit 1) (nat_lit 227) (Qr w os) (piecesOf ZA ir d3 ⟨74,0,80,16⟩ gR),λos=>some (Flow.next,TV w os,d3,⟨134,0,134,11⟩))
theorem SO:HD.seg pw (nat_lit 11) (some (.ref 6)) (nat_lit 227) Qr TV ZA ir d3 ⟨74,0,80,16⟩ ⟨134,0,134,11⟩ gR=Zq7:=by kernel_rfl
name_quick Pf for Zq7 by SO
theorem Zi7(w:World):(Fast.Pf w).1=(Fast.Pf w).2:=by kernel_rfl
theorem Zh7:HD.Ok (HD.seg pw (nat_lit 11) (some (.ref 6)) (nat_lit 227) Qr TV ZA ir d3 ⟨74,0,80,16⟩ ⟨134,0,134,11⟩ gR):=HD.ie Fast.Pf_eq Zi7
def Z7:=HD.dm (Yd P) [HD.e P mE 594 (.ref 265),HD.e P nO 603 (.ref 276)] 42
def Pz:=HD.fa (N1) [(HD.i 135),(HD.i 0),(.ref 226),(HD.i 160),(HD.i 0),(.ref 275)]
def II:=HD.dc [HD.e P jY 539 (.str eY 526),HD.e P A1 541 (.str mE 540),HD.e P j0 543 (.int (.ofNat 135) 542),HD.e P BK 553 (.ref 234),HD.e P BY 560 (.ref 241),HD.e P Cs 567 (.ref 248),HD.e P AD 575 (.ref 255),HD.e P vx 582 (.ref 262),HD.e P j6 587 (.ref 263)] 9
def I_:=HD.fl [(HD.i 137),(HD.i 4),(.ref 233),(HD.i 143),(HD.i 4),(.ref 240),(HD.i 146),(HD.i 4),(.ref 247),(HD.i 149),(HD.i 4),(.ref 254),(HD.i 156),(HD.i 4),(.ref 261)]
def Lw:=HD.cd mE mE aU 534 535 536 135 0 0 0 0 224 false 181 225 .none .none .none .none 537 135 538
def Ib:=HD.fm 226 3 223 eY 526
def zD:=HD.tp [(.str lY 547),(.str vc 548),(.str qW 549),(.str F3 550)]
def K0:=HD.fs BK Kn (L2.inClass (ht 37) 0)
def yg:=HD.cd BK Kn aU 544 545 546 137 4 0 0 3 228 true 181 229 .none (.ref 230) (.ref 231) (.ref 232) 551 137 552
def yO:=HD.fu BK Kn (L2.inClass (ht 37) 0) eY 526 233
def zB:=HD.tp [(.str lY 557)]
def JG:=HD.fs BY Im (L2.inClass (ht 37) 1)
def yv:=HD.cd BY Im aU 554 555 556 143 1 0 0 3 235 true 181 236 .none (.ref 237) (.ref 238) (.ref 239) 558 143 559
def yf:=HD.fu BY Im (L2.inClass (ht 37) 1) eY 526 240
def xN:=HD.tp [(.str lY 564)]
def Kk:=HD.fs Cs Lh (L2.inClass (ht 37) 2)
def zz:=HD.cd Cs Lh aU 561 562 563 146 1 0 0 3 242 true 181 243 .none (.ref 244) (.ref 245) (.ref 246) 565 146 566
def vB:=HD.fu Cs Lh (L2.inClass (ht 37) 2) eY 526 247
def xQ:=HD.tp [(.str lY 571),(.str j_ 572)]
def Jb:=HD.fs AD Ln (L2.inClass (ht 37) 3)
def vV:=HD.cd AD Ln aU 568 569 570 149 2 0 0 3 249 true 181 250 .none (.ref 251) (.ref 252) (.ref 253) 573 149 574
def zV:=HD.fu AD Ln (L2.inClass (ht 37) 3) eY 526 254
def yp:=HD.tp [(.str lY 579)]
def JZ:=HD.fs vx Io (L2.inClass (ht 37) 4)
def Ab:=HD.cd vx Io aU 576 577 578 156 1 0 0 3 256 true 181 257 .none (.ref 258) (.ref 259) (.ref 260) 580 156 581
def w8:=HD.fu vx Io (L2.inClass (ht 37) 4) eY 526 261
def vU:=HD.tp [(.str F3 583),(.str qW 584),(.str OH 585),(.str vc 586)]
def xM:=HD.dc [HD.e P jY 539 (.str eY 526),HD.e P j0 543 (.int (.ofNat 135) 542),HD.e P BK 553 (.ref 234),HD.e P BY 560 (.ref 241),HD.e P Cs 567 (.ref 248),HD.e P AD 575 (.ref 255),HD.e P vx 582 (.ref 262),HD.e P j6 587 (.ref 263),HD.e P Qa 589 (.ref 266),HD.e P ES 591 (.ref 267),HD.e P LG 592 .none] 4
noncomputable def zg:Obj:=⟨(.type "type"),none,(.cls ⟨mE,[(.type "object")],[(.ref 265),(.type "object")],264,mE,true,[],[],false,none,false⟩),#[none,none,(some (.str mE 532)),(some (.str mE 540)),(some (.builtin "object.__new__")),(some (.bool true))]⟩
noncomputable def w6:Obj:=⟨(.type "getset_descriptor"),none,(.fields #[(.str Qa 588),(.ref 265),(.builtin "function.__dict__"),(.builtin "function.__dict__#set")]),#[]⟩
noncomputable def xE:Obj:=⟨(.type "getset_descriptor"),none,(.fields #[(.str ES 590),(.ref 265),(.builtin "ExceptionGroup.__weakref__"), .none]),#[]⟩
def Ki:=HD.su 265
def Lo:=HD.bm (.builtin "object.__init_subclass__") (.ref 265)
def wN:=HD.tp [(.str Yu 598),(.str vc 599),(.str F3 600)]
def IF:=HD.fs nO nO (ht 38)
def z_:=HD.cd nO nO aU 595 596 597 160 1 0 0 3 270 true 181 271 .none (.ref 272) (.ref 273) (.ref 274) 601 160 602
def v_:=HD.fu nO nO (ht 38) eY 526 275
noncomputable def Zm:List Stmt:=[ht 37,ht 38]
noncomputable def ZT8(P:Params):BT:=(HD.um [ae,j4,II P,ae,I_,Lw,Ib,ae,aB,zD,ae,K0,yg,yO,ae,aB,zB,ae,JG,yv,yf,ae,aB,xN,ae,Kk,zz,vB,ae,aB,xQ,ae,Jb,vV,zV,ae,aB,yp,ae,JZ,Ab,w8,vU,xM P,zg,w6,xE,Ki,Lo,ae,aB,wN,ae,IF,z_,v_] (((ZT7 P).ins (nat_lit 3) (Z7 P)).ins (nat_lit 12) (Pz)) (nat_lit 221))
noncomputable abbrev Ub(w:World)(os:OsState):SharedT:=⟨ZT8 w.params,nat_lit 277,sm,Array.mk [],⟨0,0,0,0⟩,nat_lit 604,os⟩
noncomputable def Zq8:HD.lG (HD.F4):=λw=>(λos=>segRunT treeTable pw w (nat_lit 11) (some (.ref 6)) (nat_lit 1) (nat_lit 384) (TV w os) (piecesOf Zm ir d3 ⟨134,0,134,11⟩ gR),λos=>some (Flow.next,Ub w os,d3,⟨160,0,169,35⟩))
theorem QE:HD.seg pw (nat_lit 11) (some (.ref 6)) (nat_lit 384) TV Ub Zm ir d3 ⟨134,0,134,11⟩ ⟨160,0,169,35⟩ gR=Zq8:=by kernel_rfl
name_quick Ot for Zq8 by QE
theorem Zi8(w:World):(Fast.Ot w).1=(Fast.Ot w).2:=by kernel_rfl
theorem Zh8:HD.Ok (HD.seg pw (nat_lit 11) (some (.ref 6)) (nat_lit 384) TV Ub Zm ir d3 ⟨134,0,134,11⟩ ⟨160,0,169,35⟩ gR):=HD.ie Fast.Ot_eq Zi8
def VY:=HD.dc [HD.e P Yb 165 (.str gM 671),HD.e P LG 166 .none,HD.e P UM 167 .none,HD.e P XG 168 (.builtin "__main__.__loader__#opaque"),HD.e P X5 169 .none,HD.e P Ay 170 (.ref 6),HD.e P Bi 171 (.ref 4),HD.e P Bz 173 (.str aU 172),HD.e P AZ 174 .none,HD.e P jB 193 (.ref 21),HD.e P mh 220 (.ref 38),HD.e P lU 243 (.ref 58),HD.e P lQ 266 (.ref 77),HD.e P oo 289 (.ref 96),HD.e P EE 293 (.int (.ofNat 600) 292),HD.e P E1 295 (.int (.ofNat 40) 294),HD.e P Gd 297 (.int (.ofNat 99) 296),HD.e P FP 299 (.int (.ofNat 12) 298),HD.e P EL 301 (.str FF 300),HD.e P Fh 307 (.ref 99),HD.e P Ew 372 (.ref 100),HD.e P Jq 388 (.ref 120),HD.e P lD 394 (.ref 125),HD.e P mf 400 (.ref 130),HD.e P l_ 407 (.ref 137),HD.e P mq 413 (.ref 142),HD.e P mP 419 (.ref 147),HD.e P mz 425 (.ref 152),HD.e P mw 432 (.ref 159),HD.e P mH 445 (.ref 166),HD.e P lT 452 (.ref 173),HD.e P mC 463 (.ref 180),HD.e P om 472 (.ref 187),HD.e P ou 482 (.ref 194),HD.e P oR 491 (.ref 201),HD.e P n8 506 (.ref 208),HD.e P oX 517 (.ref 215),HD.e P og 525 (.ref 220),HD.e P N7 529 (.str Oz 528),HD.e P Qs 531 (.int (.ofNat 39) 530),HD.e P mE 594 (.ref 265),HD.e P nO 603 (.ref 276),HD.e P sH 614 (.ref 283),HD.e P tw 620 (.ref 288),HD.e P tU 629 (.ref 295),HD.e P rl 638 (.ref 302),HD.e P rC 654 (.ref 309),HD.e P rm 662 (.ref 316),HD.e P sW 670 (.ref 323),HD.e P tu 680 (.ref 330),HD.e P tm 687 (.ref 337),HD.e P tV 700 (.ref 344),HD.e P sF 707 (.ref 351),HD.e P sk 724 (.ref 358)] 54
def OS:=HD.fa (Pz) [(HD.i 170),(HD.i 0),(.ref 282),(HD.i 180),(HD.i 0),(.ref 287),(HD.i 184),(HD.i 0),(.ref 294),(HD.i 189),(HD.i 0),(.ref 301),(HD.i 197),(HD.i 0),(.ref 308),(HD.i 219),(HD.i 0),(.ref 315),(HD.i 221),(HD.i 0),(.ref 322),(HD.i 224),(HD.i 0),(.ref 329),(HD.i 228),(HD.i 0),(.ref 336),(HD.i 240),(HD.i 0),(.ref 343),(HD.i 253),(HD.i 0),(.ref 350),(HD.i 259),(HD.i 0),(.ref 357)]
def zl:=HD.tp [(.str vc 607),(.str Jr 608),(.str uM 609),(.str O2 610),(.str PD 611)]
def Ko:=HD.fs sH sH (ht 39)
def zL:=HD.cd sH sH aU 604 605 606 170 3 0 0 3 277 true 181 278 .none (.ref 279) (.ref 280) (.ref 281) 612 170 613
def yQ:=HD.fu sH sH (ht 39) eY 526 282
def Lf:=HD.fs tw tw (ht 40)
def zk:=HD.cd tw tw aU 615 616 617 180 1 0 0 3 284 true 181 285 .none .none .none (.ref 286) 618 180 619
def wB:=HD.fu tw tw (ht 40) eY 526 287
def yo:=HD.tp [(.str Pj 624),(.str j_ 625),(.str Lx 626)]
def IK:=HD.fs tU tU (ht 41)
def Ag:=HD.cd tU tU aU 621 622 623 184 1 0 0 3 289 true 181 290 .none (.ref 291) (.ref 292) (.ref 293) 627 184 628
def yw:=HD.fu tU tU (ht 41) eY 526 294
def wR:=HD.tp [(.str vc 633),(.str Jr 634),(.str uM 635)]
def J2:=HD.fs rl rl (ht 42)
def zN:=HD.cd rl rl aU 630 631 632 189 3 0 0 3 296 true 181 297 .none (.ref 298) (.ref 299) (.ref 300) 636 189 637
def yj:=HD.fu rl rl (ht 42) eY 526 301
def wU:=HD.tp [(.str Jo 642),(.str uM 643),(.str F3 644),(.str Ve 645),(.str Vz 646),(.str Jr 647),(.str U4 648),(.str vc 649),(.str PD 650),(.str vx 651)]
def Jh:=HD.fs rC rC (ht 43)
def wF:=HD.cd rC rC aU 639 640 641 197 3 0 0 3 303 true 181 304 .none (.ref 305) (.ref 306) (.ref 307) 652 197 653
def yi:=HD.fu rC rC (ht 43) eY 526 308
def zm:=HD.tp [(.str Jo 658),(.str uM 659)]
def Kr:=HD.fs rm rm (ht 44)
def zw:=HD.cd rm rm aU 655 656 657 219 2 0 0 3 310 true 181 311 .none (.ref 312) (.ref 313) (.ref 314) 660 219 661
def zY:=HD.fu rm rm (ht 44) eY 526 315
def w4:=HD.tp [(.str Jo 666),(.str uM 667)]
def IU:=HD.fs sW sW (ht 45)
def zh:=HD.cd sW sW aU 663 664 665 221 2 0 0 3 317 true 181 318 .none (.ref 319) (.ref 320) (.ref 321) 668 221 669
def yA:=HD.fu sW sW (ht 45) eY 526 322
def wY:=HD.tp [(.str K6 676),(.str AG 677)]
def KL:=HD.fs tu tu (ht 47)
def xW:=HD.cd tu tu aU 673 674 675 224 2 0 0 3 324 true 181 325 .none (.ref 326) (.ref 327) (.ref 328) 678 224 679
def z4:=HD.fu tu tu (ht 47) gM 671 329
def vC:=HD.tp [(.str Iz 684)]
def Lb:=HD.fs tm tm (ht 48)
def we:=HD.cd tm tm aU 681 682 683 228 1 0 0 3 331 true 181 332 .none (.ref 333) (.ref 334) (.ref 335) 685 228 686
def xU:=HD.fu tm tm (ht 48) gM 671 336
def xo:=HD.tp [(.str IT 691),(.str A6 692),(.str Ld 693),(.str ON 694),(.str HZ 695),(.str sM 696),(.str AG 697)]
def JA:=HD.fs tV tV (ht 49)
def xw:=HD.cd tV tV aU 688 689 690 240 4 0 0 3 338 true 181 339 .none (.ref 340) (.ref 341) (.ref 342) 698 240 699
def y_:=HD.fu tV tV (ht 49) gM 671 343
def vZ:=HD.tp [(.str Iz 704)]
def HV:=HD.fs sF sF (ht 50)
def vF:=HD.cd sF sF aU 701 702 703 253 1 0 0 3 345 true 181 346 .none (.ref 347) (.ref 348) (.ref 349) 705 253 706
def zf:=HD.fu sF sF (ht 50) gM 671 350
def xk:=HD.tp [(.str K6 711),(.str ON 712),(.str A6 713),(.str N9 714),(.str Ld 715),(.str IT 716),(.str Vr 717),(.str Iz 718),(.str UJ 719),(.str AG 720),(.str WT 721)]
def JL:=HD.fs sk sk (ht 51)
def wW:=HD.cd sk sk aU 708 709 710 259 5 0 0 3 352 true 181 353 .none (.ref 354) (.ref 355) (.ref 356) 722 259 723
def yM:=HD.fu sk sk (ht 51) gM 671 357
noncomputable def Zs:List Stmt:=[ht 39,ht 40,ht 41,ht 42,ht 43,ht 44,ht 45,ht 46,ht 47,ht 48,ht 49,ht 50,ht 51]
noncomputable def ZT9(P:Params):BT:=(HD.um [ae,aB,zl,ae,Ko,zL,yQ,ae,aB,Lf,zk,wB,ae,aB,yo,ae,IK,Ag,yw,ae,aB,wR,ae,J2,zN,yj,ae,aB,wU,ae,Jh,wF,yi,ae,aB,zm,ae,Kr,zw,zY,ae,aB,w4,ae,IU,zh,yA,ae,aB,wY,ae,KL,xW,z4,ae,aB,vC,ae,Lb,we,xU,ae,aB,xo,ae,JA,xw,y_,ae,aB,vZ,ae,HV,vF,zf,ae,aB,xk,ae,JL,wW,yM] (((ZT8 P).ins (nat_lit 3) (VY P)).ins (nat_lit 12) (OS)) (nat_lit 277))
noncomputable abbrev TR(w:World)(os:OsState):SharedT:=⟨ZT9 w.params,nat_lit 359,sm,Array.mk [],⟨0,0,0,0⟩,nat_lit 725,os⟩
noncomputable def Zq9:HD.lG (HD.F4):=λw=>(λos=>segRunT treeTable pw w (nat_lit 11) (some (.ref 6)) (nat_lit 1) (nat_lit 391) (Ub w os) (piecesOf Zs ir d3 ⟨160,0,169,35⟩ gR),λos=>some (Flow.next,TR w os,d3,⟨259,0,272,42⟩))
theorem Ro:HD.seg pw (nat_lit 11) (some (.ref 6)) (nat_lit 391) Ub TR Zs ir d3 ⟨160,0,169,35⟩ ⟨259,0,272,42⟩ gR=Zq9:=by kernel_rfl
name_quick Pt for Zq9 by Ro
theorem Zi9(w:World):(Fast.Pt w).1=(Fast.Pt w).2:=by kernel_rfl
theorem Zh9:HD.Ok (HD.seg pw (nat_lit 11) (some (.ref 6)) (nat_lit 391) Ub TR Zs ir d3 ⟨160,0,169,35⟩ ⟨259,0,272,42⟩ gR):=HD.ie Fast.Pt_eq Zi9
def FT:=HD.dm (VY P) [HD.e P tS 734 (.ref 365),HD.e P so 743 (.ref 372),HD.e P sE 752 (.ref 379),HD.e P sr 761 (.ref 386),HD.e P rV 771 (.ref 393),HD.e P sP 780 (.ref 400),HD.e P rO 786 (.ref 405),HD.e P qR 801 (.ref 412)] 62
def K8:=HD.fa (OS) [(HD.i 273),(HD.i 0),(.ref 364),(HD.i 281),(HD.i 0),(.ref 371),(HD.i 287),(HD.i 0),(.ref 378),(HD.i 293),(HD.i 0),(.ref 385),(HD.i 297),(HD.i 0),(.ref 392),(HD.i 307),(HD.i 0),(.ref 399),(HD.i 314),(HD.i 0),(.ref 404),(HD.i 320),(HD.i 0),(.ref 411)]
def qk:=HD.tp [(.str sM 728),(.str Ld 729),(.str OJ 730),(.str AG 731)]
def E8:=HD.fs tS tS (ht 52)
def qG:=HD.cd tS tS aU 725 726 727 273 2 0 0 3 359 true 181 360 .none (.ref 361) (.ref 362) (.ref 363) 732 273 733
def pS:=HD.fu tS tS (ht 52) gM 671 364
def qy:=HD.tp [(.str sM 738),(.str HZ 739),(.str Kl 740)]
def D_:=HD.fs so so (ht 53)
def qz:=HD.cd so so aU 735 736 737 281 1 0 0 3 366 true 181 367 .none (.ref 368) (.ref 369) (.ref 370) 741 281 742
def qF:=HD.fu so so (ht 53) gM 671 371
def qc:=HD.tp [(.str sM 747),(.str N9 748),(.str Kl 749)]
def EY:=HD.fs sE sE (ht 54)
def qL:=HD.cd sE sE aU 744 745 746 287 1 0 0 3 373 true 181 374 .none (.ref 375) (.ref 376) (.ref 377) 750 287 751
def qC:=HD.fu sE sE (ht 54) gM 671 378
def pT:=HD.tp [(.str OE 756),(.str A6 757),(.str OP 758)]
def E2:=HD.fs sr sr (ht 55)
def pX:=HD.cd sr sr aU 753 754 755 293 3 0 0 3 380 true 181 381 .none (.ref 382) (.ref 383) (.ref 384) 759 293 760
def pZ:=HD.fu sr sr (ht 55) gM 671 385
def qB:=HD.tp [(.str sM 765),(.str A6 766),(.str IT 767),(.str AG 768)]
def FJ:=HD.fs rV rV (ht 56)
def qH:=HD.cd rV rV aU 762 763 764 297 3 0 0 3 387 true 181 388 .none (.ref 389) (.ref 390) (.ref 391) 769 297 770
def qb:=HD.fu rV rV (ht 56) gM 671 392
def qi:=HD.tp [(.str sM 775),(.str OJ 776),(.str Kl 777)]
def D4:=HD.fs sP sP (ht 57)
def qa:=HD.cd sP sP aU 772 773 774 307 2 0 0 3 394 true 181 395 .none (.ref 396) (.ref 397) (.ref 398) 778 307 779
def pY:=HD.fu sP sP (ht 57) gM 671 399
def Fs:=HD.fs rO rO (ht 58)
def qQ:=HD.cd rO rO aU 781 782 783 314 3 0 0 3 401 true 181 402 .none .none .none (.ref 403) 784 314 785
def ql:=HD.fu rO rO (ht 58) gM 671 404
def qg:=HD.tp [(.str K6 790),(.str A6 791),(.str sM 792),(.str HZ 793),(.str W9 794),(.str OP 795),(.str OE 796),(.str XH 797),(.str VD 798)]
def Fj:=HD.fs qR qR (ht 59)
def pU:=HD.cd qR qR aU 787 788 789 320 1 0 0 3 406 true 181 407 .none (.ref 408) (.ref 409) (.ref 410) 799 320 800
def qr:=HD.fu qR qR (ht 59) gM 671 411
noncomputable def MI:List Stmt:=[ht 52,ht 53,ht 54,ht 55,ht 56,ht 57,ht 58,ht 59]
noncomputable def aaF(P:Params):BT:=(HD.um [ae,aB,qk,ae,E8,qG,pS,ae,aB,qy,ae,D_,qz,qF,ae,aB,qc,ae,EY,qL,qC,ae,aB,pT,ae,E2,pX,pZ,ae,aB,qB,ae,FJ,qH,qb,ae,aB,qi,ae,D4,qa,pY,ae,aB,Fs,qQ,ql,ae,aB,qg,ae,Fj,pU,qr] (((ZT9 P).ins (nat_lit 3) (FT P)).ins (nat_lit 12) (K8)) (nat_lit 359))
noncomputable abbrev Hz(w:World)(os:OsState):SharedT:=⟨aaF w.params,nat_lit 413,sm,Array.mk [],⟨0,0,0,0⟩,nat_lit 802,os⟩
noncomputable def X1:HD.lG (HD.F4):=λw=>(λos=>segRunT treeTable pw w (nat_lit 11) (some (.ref 6)) (nat_lit 1) (nat_lit 252) (TR w os) (piecesOf MI ir d3 ⟨259,0,272,42⟩ gR),λos=>some (Flow.next,Hz w os,d3,⟨320,0,336,135⟩))
theorem Nv:HD.seg pw (nat_lit 11) (some (.ref 6)) (nat_lit 252) TR Hz MI ir d3 ⟨259,0,272,42⟩ ⟨320,0,336,135⟩ gR=X1:=by kernel_rfl
name_quick K4 for X1 by Nv
theorem aaB(w:World):(Fast.K4 w).1=(Fast.K4 w).2:=by kernel_rfl
theorem aas:HD.Ok (HD.seg pw (nat_lit 11) (some (.ref 6)) (nat_lit 252) TR Hz MI ir d3 ⟨259,0,272,42⟩ ⟨320,0,336,135⟩ gR):=HD.ie Fast.K4_eq aaB
noncomputable def XN(r:List (Obj)):List (Obj):=PySem.W.boot_o_0 P::PySem.W.boot_o_1 P::PySem.W.boot_o_2 P::FT P::PySem.W.boot_o_4 P::PySem.W.boot_o_5 P::PySem.W.boot_o_6 P::PySem.W.boot_o_7 P::PySem.W.boot_o_8 P::PySem.W.boot_o_9 P::PySem.W.boot_o_10 P::ae::r
noncomputable def Xn(r:List (Obj)):List (Obj):=K8::KU::Lv::ae::aB::Gf::ae::Oc::ER::Fp::D6::j4::r
noncomputable def Wo(r:List (Obj)):List (Obj):=Og P::ae::PR::Pk::Pu::ae::aB::Ep::ae::Qi::Ej::D5::r
noncomputable def Wr(r:List (Obj)):List (Obj):=ae::DZ P::FG::Ga::Oj::P_::iS::j4::Pm P::ae::OQ::P9::r
noncomputable def V_(r:List (Obj)):List (Obj):=Qj::ae::aB::EI::ae::Qm::D7::ED::ae::F_ P::Fy::OW::r
noncomputable def V1(r:List (Obj)):List (Obj):=Oy::iS::j4::OO P::ae::Qc::Qn::P7::ae::aB::Fq::ae::r
noncomputable def Yo(r:List (Obj)):List (Obj):=Pq::EH::FA::ae::Ey P::EZ::PV::OV::iS::j4::OR P::ae::r
noncomputable def US(r:List (Obj)):List (Obj):=N4::OA::PJ::ae::aB::Et::ae::O3::FH::EX::ae::EM P::r
noncomputable def Wb(r:List (Obj)):List (Obj):=EG::P8::Qf::Fc::yF P::ae::ae::yy::vG::Ak::ae::yn::r
noncomputable def XI(r:List (Obj)):List (Obj):=yr::ae::zu::vT::yl::wM::yb::vD::xj::Al::IB P::ae::r
noncomputable def Q4(r:List (Obj)):List (Obj):=zd P::ae::aB::Ie::yH::yJ::ae::aB::Iq::yC::vH::ae::r
noncomputable def Rl(r:List (Obj)):List (Obj):=aB::yd::ae::Kh::xO::zj::ae::aB::Ly::yE::yN::ae::r
noncomputable def SA(r:List (Obj)):List (Obj):=aB::Jj::yZ::zb::ae::aB::Iv::yk::xC::ae::aB::zJ::r
noncomputable def Qv(r:List (Obj)):List (Obj):=ae::KO::zO::xi::ae::aB::Am::ae::HU::zR::yU::ae::r
noncomputable def TC(r:List (Obj)):List (Obj):=aB::wa::ae::Ku::Ai::yT::ae::aB::xK::ae::IW::yR::r
noncomputable def RN(r:List (Obj)):List (Obj):=wo::ae::aB::Ah::ae::Ky::wz::wm::ae::aB::wC::ae::r
noncomputable def QT(r:List (Obj)):List (Obj):=Kc::wL::zU::ae::aB::wg::ae::Je::xY::Af::ae::aB::r
noncomputable def RW(r:List (Obj)):List (Obj):=xy::ae::JC::vY::x_::ae::aB::zI::ae::Jp::wx::wZ::r
noncomputable def SG(r:List (Obj)):List (Obj):=ae::aB::JK::wX::ya::ae::j4::II P::ae::I_::Lw::Ib::r
noncomputable def SH(r:List (Obj)):List (Obj):=ae::aB::zD::ae::K0::yg::yO::ae::aB::zB::ae::JG::r
noncomputable def QW(r:List (Obj)):List (Obj):=yv::yf::ae::aB::xN::ae::Kk::zz::vB::ae::aB::xQ::r
noncomputable def Ri(r:List (Obj)):List (Obj):=ae::Jb::vV::zV::ae::aB::yp::ae::JZ::Ab::w8::vU::r
noncomputable def Sk(r:List (Obj)):List (Obj):=xM P::zg::w6::xE::Ki::Lo::ae::aB::wN::ae::IF::z_::r
noncomputable def SW(r:List (Obj)):List (Obj):=v_::ae::aB::zl::ae::Ko::zL::yQ::ae::aB::Lf::zk::r
noncomputable def Se(r:List (Obj)):List (Obj):=wB::ae::aB::yo::ae::IK::Ag::yw::ae::aB::wR::ae::r
noncomputable def Q8(r:List (Obj)):List (Obj):=J2::zN::yj::ae::aB::wU::ae::Jh::wF::yi::ae::aB::r
noncomputable def SV(r:List (Obj)):List (Obj):=zm::ae::Kr::zw::zY::ae::aB::w4::ae::IU::zh::yA::r
noncomputable def Sm(r:List (Obj)):List (Obj):=ae::aB::wY::ae::KL::xW::z4::ae::aB::vC::ae::Lb::r
noncomputable def RX(r:List (Obj)):List (Obj):=we::xU::ae::aB::xo::ae::JA::xw::y_::ae::aB::vZ::r
noncomputable def Ra(r:List (Obj)):List (Obj):=ae::HV::vF::zf::ae::aB::xk::ae::JL::wW::yM::ae::r
noncomputable def So(r:List (Obj)):List (Obj):=aB::qk::ae::E8::qG::pS::ae::aB::qy::ae::D_::qz::r
noncomputable def QH(r:List (Obj)):List (Obj):=qF::ae::aB::qc::ae::EY::qL::qC::ae::aB::pT::ae::r
noncomputable def Tf(r:List (Obj)):List (Obj):=E2::pX::pZ::ae::aB::qB::ae::FJ::qH::qb::ae::aB::r
noncomputable def Rx(r:List (Obj)):List (Obj):=qi::ae::D4::qa::pY::ae::aB::Fs::qQ::ql::ae::aB::r
noncomputable def Rj(r:List (Obj)):List (Obj):=qg::ae::Fj::pU::qr::r
noncomputable def LI(P:Params):Heap:=⟨Array.mk (XN P (Xn (Wo P (Wr P (V_ P (V1 P (Yo P (US P (Wb P (XI P (Q4 P (Rl (SA (Qv (TC (RN (QT (RW (SG P (SH (QW (Ri (Sk P (SW (Se (Q8 (SV (Sm (RX (Ra (So (QH (Tf (Rx (Rj []))))))))))))))))))))))))))))))))))),⟨[],[],[],0,[],[],false,#[],[],0,false,false,false,(.ofNat 0),[(.ofNat 2000),(.ofNat 10),(.ofNat 10)],false,0,true,[],[],0,false⟩⟩
noncomputable def R5:Drawn:=⟨0,0,0,0⟩
noncomputable def RY:Nat:=nat_lit 802
noncomputable abbrev SD:World->OsState->Shared:=HD.Vs LI R5 RY
noncomputable def Zqz:HD.lG (Option Shared):=λw=>(λos=>topRun treeTable pw w (nat_lit 11) (some (.ref 6)) (nat_lit 2) (Hz w os).abs (Thread.mk (doneF Flow.next) d3 ⟨320,0,336,135⟩ gR),λos=>some (SD w os))
theorem R3:HD.fin pw (nat_lit 11) (some (.ref 6)) (nat_lit 2) Hz SD (Thread.mk (doneF Flow.next) d3 ⟨320,0,336,135⟩ gR)=Zqz:=by kernel_rfl
name_quick Pl for Zqz by R3
theorem Ziz(w:World):(Fast.Pl w).1=(Fast.Pl w).2:=by kernel_rfl
theorem Zhz:HD.Ok (HD.fin pw (nat_lit 11) (some (.ref 6)) (nat_lit 2) Hz SD (Thread.mk (doneF Flow.next) d3 ⟨320,0,336,135⟩ gR)):=HD.ie Fast.Pl_eq Ziz
theorem Z3:behindTheImports pw=(Za++(YF++(YO++(Zr++(TX++(Uh++(ZA++(Zm++(Zs++(MI++([]:List Stmt))))))))))):=by kernel_rfl
theorem Yi:HD.Goes pw (nat_lit 11) (some (.ref 6)) SD (nat_lit 12+(nat_lit 1+(nat_lit 255+(nat_lit 244+(nat_lit 244+(nat_lit 313+(nat_lit 340+(nat_lit 385+(nat_lit 227+(nat_lit 384+(nat_lit 391+(nat_lit 252+(nat_lit 2))))))))))))) Zd (topStub pw):=HD.XS Zha (HD.Wk Z3 Zhb (HD.jX Zh1 (HD.jX Zh2 (HD.jX Zh3 (HD.jX Zh4 (HD.jX Zh5 (HD.jX Zh6 (HD.jX Zh7 (HD.jX Zh8 (HD.jX Zh9 (HD.jX aas (HD.Xv (env:=ir) Zhz))))))))))))
noncomputable def hq:Program:=HD.view pw [ht 0,ht 2,ht 3,ht 4,ht 5,ht 7,ht 8,ht 9,ht 10,ht 11,ht 12,ht 13,ht 14,ht 15,ht 16,ht 17,ht 18,ht 19,ht 20,ht 21,ht 23,ht 24,ht 26,ht 27,ht 28,ht 29,ht 30,ht 31,ht 33,ht 35,ht 36,ht 37,ht 38,ht 39,ht 40,ht 41,ht 42,ht 43,ht 44,ht 45,ht 47,ht 48,ht 49,ht 50,ht 51,ht 52,ht 53,ht 54,ht 55,ht 56,ht 57,ht 58,ht 59]
noncomputable def hl:List Str:=[PySem.Str.ofString "KIDS_DUE",PySem.Str.ofString "BINDER_OVER"]
noncomputable def WG(r:List (Addr×Obj)):List (Addr×Obj):=(nat_lit 2,PySem.W.boot_o_2 P)::(nat_lit 3,FT P)::(nat_lit 15,ae)::(nat_lit 17,Gf)::(nat_lit 18,ae)::(nat_lit 20,ER)::(nat_lit 21,Fp)::(nat_lit 22,D6)::(nat_lit 29,ae)::(nat_lit 31,Ep)::(nat_lit 32,ae)::(nat_lit 34,Ej)::r
noncomputable def X0(r:List (Addr×Obj)):List (Addr×Obj):=(nat_lit 35,D5)::(nat_lit 36,ae)::(nat_lit 37,DZ P)::(nat_lit 38,FG)::(nat_lit 39,Ga)::(nat_lit 42,iS)::(nat_lit 49,ae)::(nat_lit 51,EI)::(nat_lit 52,ae)::(nat_lit 54,D7)::(nat_lit 55,ED)::(nat_lit 56,ae)::r
noncomputable def VT(r:List (Addr×Obj)):List (Addr×Obj):=(nat_lit 57,F_ P)::(nat_lit 58,Fy)::(nat_lit 61,iS)::(nat_lit 68,ae)::(nat_lit 70,Fq)::(nat_lit 71,ae)::(nat_lit 73,EH)::(nat_lit 74,FA)::(nat_lit 75,ae)::(nat_lit 76,Ey P)::(nat_lit 77,EZ)::(nat_lit 80,iS)::r
noncomputable def Yn(r:List (Addr×Obj)):List (Addr×Obj):=(nat_lit 87,ae)::(nat_lit 89,Et)::(nat_lit 90,ae)::(nat_lit 92,FH)::(nat_lit 93,EX)::(nat_lit 94,ae)::(nat_lit 95,EM P)::(nat_lit 96,EG)::(nat_lit 99,Fc)::(nat_lit 100,yF P)::(nat_lit 101,ae)::(nat_lit 102,ae)::r
noncomputable def VL(r:List (Addr×Obj)):List (Addr×Obj):=(nat_lit 103,yy)::(nat_lit 104,vG)::(nat_lit 105,Ak)::(nat_lit 106,ae)::(nat_lit 107,yn)::(nat_lit 108,yr)::(nat_lit 109,ae)::(nat_lit 110,zu)::(nat_lit 111,vT)::(nat_lit 112,yl)::(nat_lit 113,wM)::(nat_lit 114,yb)::r
noncomputable def WA(r:List (Addr×Obj)):List (Addr×Obj):=(nat_lit 115,vD)::(nat_lit 116,xj)::(nat_lit 117,Al)::(nat_lit 119,ae)::(nat_lit 120,zd P)::(nat_lit 121,ae)::(nat_lit 124,yH)::(nat_lit 125,yJ)::(nat_lit 126,ae)::(nat_lit 129,yC)::(nat_lit 130,vH)::(nat_lit 131,ae)::r
noncomputable def WK(r:List (Addr×Obj)):List (Addr×Obj):=(nat_lit 133,yd)::(nat_lit 134,ae)::(nat_lit 136,xO)::(nat_lit 137,zj)::(nat_lit 138,ae)::(nat_lit 141,yE)::(nat_lit 142,yN)::(nat_lit 143,ae)::(nat_lit 146,yZ)::(nat_lit 147,zb)::(nat_lit 148,ae)::(nat_lit 151,yk)::r
noncomputable def Yv(r:List (Addr×Obj)):List (Addr×Obj):=(nat_lit 152,xC)::(nat_lit 153,ae)::(nat_lit 155,zJ)::(nat_lit 156,ae)::(nat_lit 158,zO)::(nat_lit 159,xi)::(nat_lit 160,ae)::(nat_lit 162,Am)::(nat_lit 163,ae)::(nat_lit 165,zR)::(nat_lit 166,yU)::(nat_lit 167,ae)::r
noncomputable def Xu(r:List (Addr×Obj)):List (Addr×Obj):=(nat_lit 169,wa)::(nat_lit 170,ae)::(nat_lit 172,Ai)::(nat_lit 173,yT)::(nat_lit 174,ae)::(nat_lit 176,xK)::(nat_lit 177,ae)::(nat_lit 179,yR)::(nat_lit 180,wo)::(nat_lit 181,ae)::(nat_lit 183,Ah)::(nat_lit 184,ae)::r
noncomputable def Xp(r:List (Addr×Obj)):List (Addr×Obj):=(nat_lit 186,wz)::(nat_lit 187,wm)::(nat_lit 188,ae)::(nat_lit 190,wC)::(nat_lit 191,ae)::(nat_lit 193,wL)::(nat_lit 194,zU)::(nat_lit 195,ae)::(nat_lit 197,wg)::(nat_lit 198,ae)::(nat_lit 200,xY)::(nat_lit 201,Af)::r
noncomputable def Ry(r:List (Addr×Obj)):List (Addr×Obj):=(nat_lit 202,ae)::(nat_lit 204,xy)::(nat_lit 205,ae)::(nat_lit 207,vY)::(nat_lit 208,x_)::(nat_lit 209,ae)::(nat_lit 211,zI)::(nat_lit 212,ae)::(nat_lit 214,wx)::(nat_lit 215,wZ)::(nat_lit 216,ae)::(nat_lit 219,wX)::r
noncomputable def SM(r:List (Addr×Obj)):List (Addr×Obj):=(nat_lit 220,ya)::(nat_lit 228,ae)::(nat_lit 230,zD)::(nat_lit 231,ae)::(nat_lit 233,yg)::(nat_lit 234,yO)::(nat_lit 235,ae)::(nat_lit 237,zB)::(nat_lit 238,ae)::(nat_lit 240,yv)::(nat_lit 241,yf)::(nat_lit 242,ae)::r
noncomputable def RC(r:List (Addr×Obj)):List (Addr×Obj):=(nat_lit 244,xN)::(nat_lit 245,ae)::(nat_lit 247,zz)::(nat_lit 248,vB)::(nat_lit 249,ae)::(nat_lit 251,xQ)::(nat_lit 252,ae)::(nat_lit 254,vV)::(nat_lit 255,zV)::(nat_lit 256,ae)::(nat_lit 258,yp)::(nat_lit 259,ae)::r
noncomputable def Rn(r:List (Addr×Obj)):List (Addr×Obj):=(nat_lit 261,Ab)::(nat_lit 262,w8)::(nat_lit 263,vU)::(nat_lit 264,xM P)::(nat_lit 265,zg)::(nat_lit 266,w6)::(nat_lit 267,xE)::(nat_lit 270,ae)::(nat_lit 272,wN)::(nat_lit 273,ae)::(nat_lit 275,z_)::(nat_lit 276,v_)::r
noncomputable def QZ(r:List (Addr×Obj)):List (Addr×Obj):=(nat_lit 277,ae)::(nat_lit 279,zl)::(nat_lit 280,ae)::(nat_lit 282,zL)::(nat_lit 283,yQ)::(nat_lit 284,ae)::(nat_lit 287,zk)::(nat_lit 288,wB)::(nat_lit 289,ae)::(nat_lit 291,yo)::(nat_lit 292,ae)::(nat_lit 294,Ag)::r
noncomputable def Tc(r:List (Addr×Obj)):List (Addr×Obj):=(nat_lit 295,yw)::(nat_lit 296,ae)::(nat_lit 298,wR)::(nat_lit 299,ae)::(nat_lit 301,zN)::(nat_lit 302,yj)::(nat_lit 303,ae)::(nat_lit 305,wU)::(nat_lit 306,ae)::(nat_lit 308,wF)::(nat_lit 309,yi)::(nat_lit 310,ae)::r
noncomputable def Ta(r:List (Addr×Obj)):List (Addr×Obj):=(nat_lit 312,zm)::(nat_lit 313,ae)::(nat_lit 315,zw)::(nat_lit 316,zY)::(nat_lit 317,ae)::(nat_lit 319,w4)::(nat_lit 320,ae)::(nat_lit 322,zh)::(nat_lit 323,yA)::(nat_lit 324,ae)::(nat_lit 326,wY)::(nat_lit 327,ae)::r
noncomputable def Rm(r:List (Addr×Obj)):List (Addr×Obj):=(nat_lit 329,xW)::(nat_lit 330,z4)::(nat_lit 331,ae)::(nat_lit 333,vC)::(nat_lit 334,ae)::(nat_lit 336,we)::(nat_lit 337,xU)::(nat_lit 338,ae)::(nat_lit 340,xo)::(nat_lit 341,ae)::(nat_lit 343,xw)::(nat_lit 344,y_)::r
noncomputable def Rr(r:List (Addr×Obj)):List (Addr×Obj):=(nat_lit 345,ae)::(nat_lit 347,vZ)::(nat_lit 348,ae)::(nat_lit 350,vF)::(nat_lit 351,zf)::(nat_lit 352,ae)::(nat_lit 354,xk)::(nat_lit 355,ae)::(nat_lit 357,wW)::(nat_lit 358,yM)::(nat_lit 359,ae)::(nat_lit 361,qk)::r
noncomputable def SU(r:List (Addr×Obj)):List (Addr×Obj):=(nat_lit 362,ae)::(nat_lit 364,qG)::(nat_lit 365,pS)::(nat_lit 366,ae)::(nat_lit 368,qy)::(nat_lit 369,ae)::(nat_lit 371,qz)::(nat_lit 372,qF)::(nat_lit 373,ae)::(nat_lit 375,qc)::(nat_lit 376,ae)::(nat_lit 378,qL)::r
noncomputable def Sq(r:List (Addr×Obj)):List (Addr×Obj):=(nat_lit 379,qC)::(nat_lit 380,ae)::(nat_lit 382,pT)::(nat_lit 383,ae)::(nat_lit 385,pX)::(nat_lit 386,pZ)::(nat_lit 387,ae)::(nat_lit 389,qB)::(nat_lit 390,ae)::(nat_lit 392,qH)::(nat_lit 393,qb)::(nat_lit 394,ae)::r
noncomputable def Sr(r:List (Addr×Obj)):List (Addr×Obj):=(nat_lit 396,qi)::(nat_lit 397,ae)::(nat_lit 399,qa)::(nat_lit 400,pY)::(nat_lit 401,ae)::(nat_lit 404,qQ)::(nat_lit 405,ql)::(nat_lit 406,ae)::(nat_lit 408,qg)::(nat_lit 409,ae)::(nat_lit 411,pU)::(nat_lit 412,qr)::r
noncomputable def ZZ(P:Params):List (Addr×Obj):=(WG P (X0 P (VT P (Yn P (VL (WA P (WK (Yv (Xu (Xp (Ry (SM (RC (Rn P (QZ (Tc (Ta (Rm (Rr (SU (Sq (Sr []))))))))))))))))))))))
noncomputable def ZhK(P:Params):Frag:=(nat_lit 2,PySem.W.boot_o_2 P)::(nat_lit 3,FT P)::(nat_lit 15,ae)::(nat_lit 17,Gf)::(nat_lit 18,ae)::(nat_lit 20,ER)::(nat_lit 21,Fp)::(nat_lit 22,D6)::(nat_lit 29,ae)::(nat_lit 31,Ep)::(nat_lit 32,ae)::(nat_lit 34,Ej)::(nat_lit 35,D5)::(nat_lit 36,ae)::(nat_lit 37,DZ P)::(nat_lit 38,FG)::(nat_lit 39,Ga)::(nat_lit 42,iS)::(nat_lit 49,ae)::(nat_lit 51,EI)::(nat_lit 52,ae)::(nat_lit 54,D7)::(nat_lit 55,ED)::(nat_lit 56,ae)::(nat_lit 57,F_ P)::(nat_lit 58,Fy)::(nat_lit 61,iS)::(nat_lit 68,ae)::(nat_lit 70,Fq)::(nat_lit 71,ae)::(nat_lit 73,EH)::(nat_lit 74,FA)::(nat_lit 75,ae)::(nat_lit 76,Ey P)::(nat_lit 77,EZ)::(nat_lit 80,iS)::(nat_lit 87,ae)::(nat_lit 89,Et)::(nat_lit 90,ae)::(nat_lit 92,FH)::(nat_lit 93,EX)::(nat_lit 94,ae)::(nat_lit 95,EM P)::(nat_lit 96,EG)::(nat_lit 99,Fc)::(nat_lit 100,yF P)::(nat_lit 101,ae)::(nat_lit 102,ae)::(nat_lit 103,yy)::(nat_lit 104,vG)::(nat_lit 105,Ak)::(nat_lit 106,ae)::(nat_lit 107,yn)::(nat_lit 108,yr)::(nat_lit 109,ae)::(nat_lit 110,zu)::(nat_lit 111,vT)::(nat_lit 112,yl)::(nat_lit 113,wM)::(nat_lit 114,yb)::(nat_lit 115,vD)::(nat_lit 116,xj)::(nat_lit 117,Al)::(nat_lit 119,ae)::(nat_lit 120,zd P)::(nat_lit 121,ae)::(nat_lit 124,yH)::(nat_lit 125,yJ)::(nat_lit 126,ae)::(nat_lit 129,yC)::(nat_lit 130,vH)::(nat_lit 131,ae)::(nat_lit 133,yd)::(nat_lit 134,ae)::(nat_lit 136,xO)::(nat_lit 137,zj)::(nat_lit 138,ae)::(nat_lit 141,yE)::(nat_lit 142,yN)::(nat_lit 143,ae)::(nat_lit 146,yZ)::(nat_lit 147,zb)::(nat_lit 148,ae)::(nat_lit 151,yk)::(nat_lit 152,xC)::(nat_lit 153,ae)::(nat_lit 155,zJ)::(nat_lit 156,ae)::(nat_lit 158,zO)::(nat_lit 159,xi)::(nat_lit 160,ae)::(nat_lit 162,Am)::(nat_lit 163,ae)::(nat_lit 165,zR)::(nat_lit 166,yU)::(nat_lit 167,ae)::(nat_lit 169,wa)::(nat_lit 170,ae)::(nat_lit 172,Ai)::(nat_lit 173,yT)::(nat_lit 174,ae)::(nat_lit 176,xK)::(nat_lit 177,ae)::(nat_lit 179,yR)::(nat_lit 180,wo)::(nat_lit 181,ae)::(nat_lit 183,Ah)::(nat_lit 184,ae)::(nat_lit 186,wz)::(nat_lit 187,wm)::(nat_lit 188,ae)::(nat_lit 190,wC)::(nat_lit 191,ae)::(nat_lit 193,wL)::(nat_lit 194,zU)::(nat_lit 195,ae)::(nat_lit 197,wg)::(nat_lit 198,ae)::(nat_lit 200,xY)::(nat_lit 201,Af)::(nat_lit 202,ae)::(nat_lit 204,xy)::(nat_lit 205,ae)::(nat_lit 207,vY)::(nat_lit 208,x_)::(nat_lit 209,ae)::(nat_lit 211,zI)::(nat_lit 212,ae)::(nat_lit 214,wx)::(nat_lit 215,wZ)::(nat_lit 216,ae)::(nat_lit 219,wX)::(nat_lit 220,ya)::(nat_lit 228,ae)::(nat_lit 230,zD)::(nat_lit 231,ae)::(nat_lit 233,yg)::(nat_lit 234,yO)::(nat_lit 235,ae)::(nat_lit 237,zB)::(nat_lit 238,ae)::(nat_lit 240,yv)::(nat_lit 241,yf)::(nat_lit 242,ae)::(nat_lit 244,xN)::(nat_lit 245,ae)::(nat_lit 247,zz)::(nat_lit 248,vB)::(nat_lit 249,ae)::(nat_lit 251,xQ)::(nat_lit 252,ae)::(nat_lit 254,vV)::(nat_lit 255,zV)::(nat_lit 256,ae)::(nat_lit 258,yp)::(nat_lit 259,ae)::(nat_lit 261,Ab)::(nat_lit 262,w8)::(nat_lit 263,vU)::(nat_lit 264,xM P)::(nat_lit 265,zg)::(nat_lit 266,w6)::(nat_lit 267,xE)::(nat_lit 270,ae)::(nat_lit 272,wN)::(nat_lit 273,ae)::(nat_lit 275,z_)::(nat_lit 276,v_)::(nat_lit 277,ae)::(nat_lit 279,zl)::(nat_lit 280,ae)::(nat_lit 282,zL)::(nat_lit 283,yQ)::(nat_lit 284,ae)::(nat_lit 287,zk)::(nat_lit 288,wB)::(nat_lit 289,ae)::(nat_lit 291,yo)::(nat_lit 292,ae)::(nat_lit 294,Ag)::(nat_lit 295,yw)::(nat_lit 296,ae)::(nat_lit 298,wR)::(nat_lit 299,ae)::(nat_lit 301,zN)::(nat_lit 302,yj)::(nat_lit 303,ae)::(nat_lit 305,wU)::(nat_lit 306,ae)::(nat_lit 308,wF)::(nat_lit 309,yi)::(nat_lit 310,ae)::(nat_lit 312,zm)::(nat_lit 313,ae)::(nat_lit 315,zw)::(nat_lit 316,zY)::(nat_lit 317,ae)::(nat_lit 319,w4)::(nat_lit 320,ae)::(nat_lit 322,zh)::(nat_lit 323,yA)::(nat_lit 324,ae)::(nat_lit 326,wY)::(nat_lit 327,ae)::(nat_lit 329,xW)::(nat_lit 330,z4)::(nat_lit 331,ae)::(nat_lit 333,vC)::(nat_lit 334,ae)::(nat_lit 336,we)::(nat_lit 337,xU)::(nat_lit 338,ae)::(nat_lit 340,xo)::(nat_lit 341,ae)::(nat_lit 343,xw)::(nat_lit 344,y_)::(nat_lit 345,ae)::(nat_lit 347,vZ)::(nat_lit 348,ae)::(nat_lit 350,vF)::(nat_lit 351,zf)::(nat_lit 352,ae)::(nat_lit 354,xk)::(nat_lit 355,ae)::(nat_lit 357,wW)::(nat_lit 358,yM)::(nat_lit 359,ae)::(nat_lit 361,qk)::(nat_lit 362,ae)::(nat_lit 364,qG)::(nat_lit 365,pS)::(nat_lit 366,ae)::(nat_lit 368,qy)::(nat_lit 369,ae)::(nat_lit 371,qz)::(nat_lit 372,qF)::(nat_lit 373,ae)::(nat_lit 375,qc)::(nat_lit 376,ae)::(nat_lit 378,qL)::(nat_lit 379,qC)::(nat_lit 380,ae)::(nat_lit 382,pT)::(nat_lit 383,ae)::(nat_lit 385,pX)::(nat_lit 386,pZ)::(nat_lit 387,ae)::(nat_lit 389,qB)::(nat_lit 390,ae)::(nat_lit 392,qH)::(nat_lit 393,qb)::(nat_lit 394,ae)::(nat_lit 396,qi)::(nat_lit 397,ae)::(nat_lit 399,qa)::(nat_lit 400,pY)::(nat_lit 401,ae)::(nat_lit 404,qQ)::(nat_lit 405,ql)::(nat_lit 406,ae)::(nat_lit 408,qg)::(nat_lit 409,ae)::(nat_lit 411,pU)::(nat_lit 412,qr)::[]
noncomputable def ZhA:List Addr:=[nat_lit 2,nat_lit 3,nat_lit 15,nat_lit 17,nat_lit 18,nat_lit 20,nat_lit 21,nat_lit 22,nat_lit 29,nat_lit 31,nat_lit 32,nat_lit 34,nat_lit 35,nat_lit 36,nat_lit 37,nat_lit 38,nat_lit 39,nat_lit 42,nat_lit 49,nat_lit 51,nat_lit 52,nat_lit 54,nat_lit 55,nat_lit 56,nat_lit 57,nat_lit 58,nat_lit 61,nat_lit 68,nat_lit 70,nat_lit 71,nat_lit 73,nat_lit 74,nat_lit 75,nat_lit 76,nat_lit 77,nat_lit 80,nat_lit 87,nat_lit 89,nat_lit 90,nat_lit 92,nat_lit 93,nat_lit 94,nat_lit 95,nat_lit 96,nat_lit 99,nat_lit 100,nat_lit 101,nat_lit 102,nat_lit 103,nat_lit 104,nat_lit 105,nat_lit 106,nat_lit 107,nat_lit 108,nat_lit 109,nat_lit 110,nat_lit 111,nat_lit 112,nat_lit 113,nat_lit 114,nat_lit 115,nat_lit 116,nat_lit 117,nat_lit 119,nat_lit 120,nat_lit 121,nat_lit 124,nat_lit 125,nat_lit 126,nat_lit 129,nat_lit 130,nat_lit 131,nat_lit 133,nat_lit 134,nat_lit 136,nat_lit 137,nat_lit 138,nat_lit 141,nat_lit 142,nat_lit 143,nat_lit 146,nat_lit 147,nat_lit 148,nat_lit 151,nat_lit 152,nat_lit 153,nat_lit 155,nat_lit 156,nat_lit 158,nat_lit 159,nat_lit 160,nat_lit 162,nat_lit 163,nat_lit 165,nat_lit 166,nat_lit 167,nat_lit 169,nat_lit 170,nat_lit 172,nat_lit 173,nat_lit 174,nat_lit 176,nat_lit 177,nat_lit 179,nat_lit 180,nat_lit 181,nat_lit 183,nat_lit 184,nat_lit 186,nat_lit 187,nat_lit 188,nat_lit 190,nat_lit 191,nat_lit 193,nat_lit 194,nat_lit 195,nat_lit 197,nat_lit 198,nat_lit 200,nat_lit 201,nat_lit 202,nat_lit 204,nat_lit 205,nat_lit 207,nat_lit 208,nat_lit 209,nat_lit 211,nat_lit 212,nat_lit 214,nat_lit 215,nat_lit 216,nat_lit 219,nat_lit 220,nat_lit 228,nat_lit 230,nat_lit 231,nat_lit 233,nat_lit 234,nat_lit 235,nat_lit 237,nat_lit 238,nat_lit 240,nat_lit 241,nat_lit 242,nat_lit 244,nat_lit 245,nat_lit 247,nat_lit 248,nat_lit 249,nat_lit 251,nat_lit 252,nat_lit 254,nat_lit 255,nat_lit 256,nat_lit 258,nat_lit 259,nat_lit 261,nat_lit 262,nat_lit 263,nat_lit 264,nat_lit 265,nat_lit 266,nat_lit 267,nat_lit 270,nat_lit 272,nat_lit 273,nat_lit 275,nat_lit 276,nat_lit 277,nat_lit 279,nat_lit 280,nat_lit 282,nat_lit 283,nat_lit 284,nat_lit 287,nat_lit 288,nat_lit 289,nat_lit 291,nat_lit 292,nat_lit 294,nat_lit 295,nat_lit 296,nat_lit 298,nat_lit 299,nat_lit 301,nat_lit 302,nat_lit 303,nat_lit 305,nat_lit 306,nat_lit 308,nat_lit 309,nat_lit 310,nat_lit 312,nat_lit 313,nat_lit 315,nat_lit 316,nat_lit 317,nat_lit 319,nat_lit 320,nat_lit 322,nat_lit 323,nat_lit 324,nat_lit 326,nat_lit 327,nat_lit 329,nat_lit 330,nat_lit 331,nat_lit 333,nat_lit 334,nat_lit 336,nat_lit 337,nat_lit 338,nat_lit 340,nat_lit 341,nat_lit 343,nat_lit 344,nat_lit 345,nat_lit 347,nat_lit 348,nat_lit 350,nat_lit 351,nat_lit 352,nat_lit 354,nat_lit 355,nat_lit 357,nat_lit 358,nat_lit 359,nat_lit 361,nat_lit 362,nat_lit 364,nat_lit 365,nat_lit 366,nat_lit 368,nat_lit 369,nat_lit 371,nat_lit 372,nat_lit 373,nat_lit 375,nat_lit 376,nat_lit 378,nat_lit 379,nat_lit 380,nat_lit 382,nat_lit 383,nat_lit 385,nat_lit 386,nat_lit 387,nat_lit 389,nat_lit 390,nat_lit 392,nat_lit 393,nat_lit 394,nat_lit 396,nat_lit 397,nat_lit 399,nat_lit 400,nat_lit 401,nat_lit 404,nat_lit 405,nat_lit 406,nat_lit 408,nat_lit 409,nat_lit 411,nat_lit 412]
noncomputable def hX(s:Shared):Bool:=xlAt hq [] s&&recOk [] s
noncomputable abbrev hH:Hook:=kHook ZhK ZhA (λ_=>by kernel_rfl)
noncomputable def Zqs:HD.lG ((Bool×Nat×Option Value)):=λw=>(λos=>((boot_heap w.params).isNs mainGlobals&&(Array.mk []:Array GenState).size==0,(boot_heap w.params).objs.size,(boot_heap w.params).nsMap mainGlobals "__annotations__"),λos=>(true,(nat_lit 11),(some (.ref 6))))
theorem SN:HD.sz (nat_lit 11) (some (.ref 6))=Zqs:=by kernel_rfl
name_quick Qq for Zqs by SN
theorem Zis(w:World):(Fast.Qq w).1=(Fast.Qq w).2:=by kernel_rfl
theorem Zhs:HD.Ok (HD.sz (nat_lit 11) (some (.ref 6))):=HD.ie Fast.Qq_eq Zis
noncomputable def WS:HD.lG (Bool):=λw=>(λos=>(staticsOk (importedModules pw.main.body) (boot_heap w.params) (LI w.params)&&namesBound pw (LI w.params)&&gensDone (SD w os)&&laidKept (boot_heap w.params) (LI w.params)),λos=>true)
theorem ME:HD.la pw LI R5 RY=WS:=by kernel_rfl
name_quick Lk for WS by ME
theorem aba(w:World):(Fast.Lk w).1=(Fast.Lk w).2:=by kernel_rfl
theorem aa2:HD.Ok (HD.la pw LI R5 RY):=HD.ie Fast.Lk_eq aba
noncomputable def UL(w:World):=((λos:OsState=>openSeen hq hl (importedModules pw.main.body) hX true (SD w os)),(λ_:OsState=>openGood hq hl))
theorem MX:HD.lb pw hq hl hX LI R5 RY=UL:=by kernel_rfl
name_quick KP for UL by MX
theorem aaj(w:World):(Fast.KP w).1=(Fast.KP w).2:=by kernel_rfl
theorem ZU:HD.Ok (HD.lb pw hq hl hX LI R5 RY):=HD.ie Fast.KP_eq aaj
noncomputable def Uz:HD.lG ((List (Option Obj))):=λw=>(λos=>ZhA.map (SD w os).heap.get?,λos=>(ZZ w.params).map λp=>some p.2)
theorem Ni:HD.lc hH LI R5 RY=Uz:=by kernel_rfl
name_quick JD for Uz by Ni
theorem aaG(w:World):(Fast.JD w).1=(Fast.JD w).2:=by kernel_rfl
theorem aae:HD.Ok (HD.lc hH LI R5 RY):=HD.ie Fast.JD_eq aaG
theorem hleft:LeftO pw hq hl hX hH.obs hH.val 6176:=HD.left (by kernel_rfl) (by decide) (λs=>by kernel_rfl) Zhs Yi (by decide+kernel) aa2 ZU aae
end K57
end
open PySem PySem.W PyProof.Rows
set_option maxRecDepth 100000 in
set_option maxHeartbeats 0 in
theorem PySem.Challenge.cw_keeper_k57_whole_read_of_shown_holds : PySem.Challenge.rw_keeper_k57_whole_read_of_shown.Holds := by
  w_on; o_law
  refine PySem.W.holds_open (q := K57.hq) (loose := K57.hl) (Xt := K57.hX) (XP := PySem.W.XL K57.hq []) (Yf := PySem.W.Hook.obs K57.hH) (Ya := PySem.W.Hook.val K57.hH) (YP := PySem.W.Hook.says K57.hH) (N := 6176) K57.hleft (PySem.W.Hook.of _) (PySem.W.Hook.keeps _) (fun s e => PySem.W.xl_of s (Bool.and_eq_true_iff.mp e).1) PySem.W.XL.keeps (by rfl) (by rfl) (by rfl) (fun s e => PySem.W.recFacts_of (Bool.and_eq_true_iff.mp e).2) (by rfl) (by assumption) (by decide +kernel) ⟨rfl, rfl, rfl, rfl, rfl, by decide +kernel⟩ ?hw ?hc
  case hw => w_witness2
  delta K57.hH
  k_fill
  refine K57.walk (l := PySem.Challenge.rw_keeper_k57_whole_read_of_shown) rfl rfl (fun w h Y => PySem.W.kIn_of Y) ?F
  case F =>
    intro w mg fa h KX G hmg
    have T : ∃ t, K57.Txt (L2.KOf KX) mg t := by
      dsimp only [L2.KOf]
      refine' K57.txt_mk KX G ?a0 ?a1 ?a2 ?a3 ?a4 ?a5 ?a6 ?a7 ?a8 ?a9 ?a10 ?a11 ?a12 ?a13 ?a14 ?a15 ?a16 ?a17 ?a18 ?a19 ?a20 ?a21 ?a22 ?a23 ?a24 ?a25 ?a26 ?a27 ?a28 ?a29 ?a30 ?a31 ?a32 ?a33 ?a34 ?a35 ?a36 ?z_all ?z_int ?z_isinstance ?z_len ?z_list ?z_max ?z_min ?z_range ?z_reversed ?z_set ?z_sorted ?z_str ?z_tuple ?z_zip ?g_MOST_KNOTS ?g_MOST_DEEP ?g_MOST_VARIABLE ?g_MOST_LETTERS ?g_LETTERS ?g_KIND_WORDS ?lk_KIND_WORDS ?vs_KIND_WORDS ?g_KIDS_DUE ?lk_KIDS_DUE ?sy_KIDS_DUE ?ks_KIDS_DUE ?rf_KIDS_DUE ?u0_KIDS_DUE ?v0_KIDS_DUE ?u1_KIDS_DUE ?v1_KIDS_DUE ?u2_KIDS_DUE ?v2_KIDS_DUE ?u3_KIDS_DUE ?v3_KIDS_DUE ?u4_KIDS_DUE ?v4_KIDS_DUE ?u5_KIDS_DUE ?v5_KIDS_DUE ?u6_KIDS_DUE ?v6_KIDS_DUE ?u7_KIDS_DUE ?v7_KIDS_DUE ?u8_KIDS_DUE ?v8_KIDS_DUE ?u9_KIDS_DUE ?v9_KIDS_DUE ?u10_KIDS_DUE ?v10_KIDS_DUE ?u11_KIDS_DUE ?v11_KIDS_DUE ?u12_KIDS_DUE ?v12_KIDS_DUE ?u13_KIDS_DUE ?v13_KIDS_DUE ?u14_KIDS_DUE ?v14_KIDS_DUE ?u15_KIDS_DUE ?v15_KIDS_DUE ?u16_KIDS_DUE ?v16_KIDS_DUE ?u17_KIDS_DUE ?v17_KIDS_DUE ?g_BINDER_OVER ?lk_BINDER_OVER ?sy_BINDER_OVER ?vs_BINDER_OVER ?g_FIGURES ?g_MOST_FIGURE ?g_Great ?g_NoVariable ?g_NoText ?g_Form ?pg_Form ?hd_Form ?po_Form ?sa_Form ?mk_Form ?kp_Form ?na_Form_word ?na_Form_name ?na_Form_due ?na_Form_parts ?a_Form_init ?l_Form_init ?c_Form_init ?k_Form_init ?n_Form_init ?a_Form_binds_here ?l_Form_binds_here ?c_Form_binds_here ?k_Form_binds_here ?n_Form_binds_here ?a_Form_is_full ?l_Form_is_full ?c_Form_is_full ?k_Form_is_full ?n_Form_is_full ?a_Form_take ?l_Form_take ?c_Form_take ?k_Form_take ?n_Form_take ?a_Form_closed ?l_Form_closed ?c_Form_closed ?k_Form_closed ?n_Form_closed ?x_nt ?x_gr ?x_nv
      (case a0 => apply L3.dfi; iterate 4 k_is)
      (case a1 => apply L3.dfi; iterate 4 k_is)
      (case a2 => apply L3.dfi; iterate 4 k_is)
      (case a3 => apply L3.dfi; iterate 4 k_is)
      (case a4 => apply L3.dfi; iterate 4 k_is)
      (case a5 => apply L3.dfi; iterate 4 k_is)
      (case a6 => apply L3.dfi; iterate 4 k_is)
      (case a7 => apply L3.dfi; iterate 4 k_is)
      (case a8 => apply L3.dfi; iterate 4 k_is)
      (case a9 => apply L3.dfi; iterate 4 k_is)
      (case a10 => apply L3.dfi; iterate 4 k_is)
      (case a11 => apply L3.dfi; iterate 4 k_is)
      (case a12 => apply L3.dfi; iterate 4 k_is)
      (case a13 => apply L3.dfi; iterate 4 k_is)
      (case a14 => apply L3.dfi; iterate 4 k_is)
      (case a15 => apply L3.dfi; iterate 4 k_is)
      (case a16 => apply L3.dfi; iterate 4 k_is)
      (case a17 => apply L3.dfi; iterate 4 k_is)
      (case a18 => apply L3.dfi; iterate 4 k_is)
      (case a19 => apply L3.dfi; iterate 4 k_is)
      (case a20 => apply L3.dfi; iterate 4 k_is)
      (case a21 => apply L3.dfi; iterate 4 k_is)
      (case a22 => apply L3.dfi; iterate 4 k_is)
      (case a23 => apply L3.dfi; iterate 4 k_is)
      (case a24 => apply L3.dfi; iterate 4 k_is)
      (case a25 => apply L3.dfi; iterate 4 k_is)
      (case a26 => apply L3.dfi; iterate 4 k_is)
      (case a27 => apply L3.dfi; iterate 4 k_is)
      (case a28 => apply L3.dfi; iterate 4 k_is)
      (case a29 => apply L3.dfi; iterate 4 k_is)
      (case a30 => apply L3.dfi; iterate 4 k_is)
      (case a31 => apply L3.dfi; iterate 4 k_is)
      (case a32 => apply L3.dfi; iterate 4 k_is)
      (case a33 => apply L3.dfi; iterate 4 k_is)
      (case a34 => apply L3.dfi; iterate 4 k_is)
      (case a35 => apply L3.dfi; iterate 4 k_is)
      (case a36 => apply L3.dfi; iterate 4 k_is)
      (case z_all => k_is)
      (case z_int => k_is)
      (case z_isinstance => k_is)
      (case z_len => k_is)
      (case z_list => k_is)
      (case z_max => k_is)
      (case z_min => k_is)
      (case z_range => k_is)
      (case z_reversed => k_is)
      (case z_set => k_is)
      (case z_sorted => k_is)
      (case z_str => k_is)
      (case z_tuple => k_is)
      (case z_zip => k_is)
      (case g_MOST_KNOTS => k_is)
      (case g_MOST_DEEP => k_is)
      (case g_MOST_VARIABLE => k_is)
      (case g_MOST_LETTERS => k_is)
      (case g_LETTERS => k_is)
      (case g_KIND_WORDS => k_is)
      (case lk_KIND_WORDS => k_is)
      (case vs_KIND_WORDS => decide +kernel)
      (case g_KIDS_DUE => k_is)
      (case lk_KIDS_DUE => k_is)
      (case sy_KIDS_DUE => decide +kernel)
      (case ks_KIDS_DUE => kernel_rfl)
      (case rf_KIDS_DUE => (dsimp only [HD.e]; rfl))
      (case u0_KIDS_DUE => k_is)
      (case v0_KIDS_DUE => decide +kernel)
      (case u1_KIDS_DUE => k_is)
      (case v1_KIDS_DUE => decide +kernel)
      (case u2_KIDS_DUE => k_is)
      (case v2_KIDS_DUE => decide +kernel)
      (case u3_KIDS_DUE => k_is)
      (case v3_KIDS_DUE => decide +kernel)
      (case u4_KIDS_DUE => k_is)
      (case v4_KIDS_DUE => decide +kernel)
      (case u5_KIDS_DUE => k_is)
      (case v5_KIDS_DUE => decide +kernel)
      (case u6_KIDS_DUE => k_is)
      (case v6_KIDS_DUE => decide +kernel)
      (case u7_KIDS_DUE => k_is)
      (case v7_KIDS_DUE => decide +kernel)
      (case u8_KIDS_DUE => k_is)
      (case v8_KIDS_DUE => decide +kernel)
      (case u9_KIDS_DUE => k_is)
      (case v9_KIDS_DUE => decide +kernel)
      (case u10_KIDS_DUE => k_is)
      (case v10_KIDS_DUE => decide +kernel)
      (case u11_KIDS_DUE => k_is)
      (case v11_KIDS_DUE => decide +kernel)
      (case u12_KIDS_DUE => k_is)
      (case v12_KIDS_DUE => decide +kernel)
      (case u13_KIDS_DUE => k_is)
      (case v13_KIDS_DUE => decide +kernel)
      (case u14_KIDS_DUE => k_is)
      (case v14_KIDS_DUE => decide +kernel)
      (case u15_KIDS_DUE => k_is)
      (case v15_KIDS_DUE => decide +kernel)
      (case u16_KIDS_DUE => k_is)
      (case v16_KIDS_DUE => decide +kernel)
      (case u17_KIDS_DUE => k_is)
      (case v17_KIDS_DUE => decide +kernel)
      (case g_BINDER_OVER => k_is)
      (case lk_BINDER_OVER => k_is)
      (case sy_BINDER_OVER => decide +kernel)
      (case vs_BINDER_OVER => kernel_rfl)
      (case g_FIGURES => k_is)
      (case g_MOST_FIGURE => k_is)
      (case g_Great => k_is)
      (case g_NoVariable => k_is)
      (case g_NoText => k_is)
      (case g_Form => k_is)
      (case pg_Form => k_is)
      (case hd_Form => k_is)
      (case po_Form => k_is)
      (case sa_Form => k_is)
      (case mk_Form => k_is)
      (case kp_Form => k_is)
      (case na_Form_word => k_is)
      (case na_Form_name => k_is)
      (case na_Form_due => k_is)
      (case na_Form_parts => k_is)
      (case a_Form_init => k_is)
      (case l_Form_init => k_is)
      (case c_Form_init => k_is)
      (case k_Form_init => k_is)
      (case n_Form_init => k_is)
      (case a_Form_binds_here => k_is)
      (case l_Form_binds_here => k_is)
      (case c_Form_binds_here => k_is)
      (case k_Form_binds_here => k_is)
      (case n_Form_binds_here => k_is)
      (case a_Form_is_full => k_is)
      (case l_Form_is_full => k_is)
      (case c_Form_is_full => k_is)
      (case k_Form_is_full => k_is)
      (case n_Form_is_full => k_is)
      (case a_Form_take => k_is)
      (case l_Form_take => k_is)
      (case c_Form_take => k_is)
      (case k_Form_take => k_is)
      (case n_Form_take => k_is)
      (case a_Form_closed => k_is)
      (case l_Form_closed => k_is)
      (case c_Form_closed => k_is)
      (case k_Form_closed => k_is)
      (case n_Form_closed => k_is)
      (case x_nt => kernel_rfl)
      (case x_gr => kernel_rfl)
      (case x_nv => kernel_rfl)
    obtain ⟨t, T⟩ := T
    exact K57.fin T hmg
