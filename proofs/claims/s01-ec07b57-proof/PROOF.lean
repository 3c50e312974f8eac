import PyProof.Rows.All
import PySem.SetTable
import PyProof.SetKind
import PyProof.TupleKey
import PyProof.IsRules
import PyProof.SetRoads
import PyProof.Rows.SetFrom
import PyProof.CollectWalk
import PyProof.DictWalks
import PyProof.SetNew
import PyProof.Rows.SortShell
import PyProof.Rows.SortWalk
import Wide.All
import OpenK.AllK
import Wide.FinOn
import PyProof.EqAt
import PyProof.EqKinds
import PyProof.TupleCall
import KE.BitLaws
import Open.SpecLaws
import KE.OsHead
import KE.OsGo
import KE.KNest
import PySem.Challenge.RW_prioritybook_s01_answers
import KE.KSortAsk
import KE.KSortTup
import KE.KLam
import KE.KSortKey
import KE.KSortTupG
set_option Elab.async false
set_option linter.all false
set_option maxRecDepth 100000
set_option maxHeartbeats 2000000
abbrev aa:=@PySem.wpAny_bind
abbrev ab:=@List.length_map
abbrev ae:=@List.getElem?_eq_getElem
abbrev aj:=@PySem.wpAny_pure
abbrev ak:=@PySem.Heap.get?_push_of_some
abbrev ao:=@List.mem_cons_of_mem
abbrev aq:=@List.length_cons
abbrev aw:=@if_neg
abbrev ax:=@List.mem_cons_self
abbrev ay:=@Nat.le_refl
abbrev az:=@if_pos
abbrev aA:=@List.length_append
abbrev aB:=@List.mem_cons
abbrev aD:=@decide_eq_false
abbrev aE:=@List.getD_eq_getElem?_getD
abbrev aJ:=@decide_eq_true
abbrev aK:=@Bool.false_ne_true
abbrev aM:=@PySem.Heap.lt_size
abbrev aN:=@List.getElem?_eq_some_iff
abbrev aO:=@PySem.Heap.get?_push_size
abbrev aP:=@List.mem_singleton
abbrev aT:=@List.map_cons
abbrev aU:=@List.size_toArray
abbrev aV:=@List.mem_map
abbrev aW:=@List.getElem?_map
abbrev aX:=@Bool.false_eq_true
abbrev aY:=@List.mem_of_getElem?
abbrev aZ:=@List.map_append
abbrev a0:=@Nat.ne_of_lt
abbrev a6:=@Bool.and_eq_true
abbrev a8:=@List.mem_iff_getElem
abbrev bf:=@Nat.le_trans
abbrev bh:=@Array.length_toList
abbrev bj:=@decide_eq_true_iff
abbrev bo:=@PySem.sizeLine_eq
abbrev bp:=@Nat.zero_le
abbrev bq:=@List.getElem?_append_left
abbrev br:=@List.mem_append
abbrev bu:=@List.length_filter_le
abbrev bw:=@Option.some.inj
abbrev bz:=@Bool.eq_iff_iff
abbrev bA:=@Nat.lt_of_lt_of_le
abbrev bC:=@List.map_map
abbrev bD:=@List.getElem?_append_right
abbrev bE:=@List.all_eq_true
abbrev bH:=@PySem.boot_len
abbrev bI:=@Decidable.byContradiction
abbrev bL:=@List.getElem_mem
abbrev bN:=@List.nodup_iff_pairwise_ne
abbrev bO:=@Option.map_eq_some_iff
abbrev bR:=@List.length_nil
abbrev bT:=@PySem.Heap.size_push
abbrev bV:=@PySem.F.plainAttrs_list
abbrev bW:=@List.length_take
abbrev bY:=@List.nodup_cons
abbrev b0:=@List.pairwise_cons
abbrev b9:=@Int.toNat_natCast
abbrev cb:=@PySem.mem_of_lookup
abbrev cc:=@PySem.wpAny_setState_of
abbrev cp:=@List.mem_filter
abbrev cx:=@decide_eq_true_eq
abbrev cy:=@List.pairwise_map
abbrev cB:=@List.mem_append_right
abbrev cD:=@List.pairwise_iff_getElem
abbrev cE:=@if_false
abbrev cI:=@List.mem_append_left
abbrev cM:=@List.take_length
abbrev cN:=@Bool.not_true
abbrev cX:=@PySem.PassesOwn.never
abbrev dh:=@List.foldl_cons
abbrev dq:=@Bool.or_eq_true
abbrev du:=@Int.toNat_of_nonneg
abbrev dA:=@Array.getElem?_toList
abbrev dC:=@PySem.wpAny_call_entry
abbrev dD:=@if_true
abbrev dG:=@PySem.wpAny_truthy_bool
abbrev dH:=@List.zip_cons_cons
abbrev dI:=@List.mem_range
abbrev dJ:=@Nat.lt_irrefl
abbrev dM:=@List.find?_cons
abbrev dP:=@decide_eq_decide
abbrev dQ:=@List.filter_cons
abbrev dX:=@PySem.wpAny_holding
abbrev d4:=@beq_eq_false_iff_ne
abbrev d6:=@PySem.F.type_list_extend
abbrev d7:=@PySem.F.slot_list_extend
abbrev d8:=@Bool.false_and
abbrev eC:=@PySem.Heap.SameBut.update
abbrev eI:=@PySem.Heap.get?_update_self
abbrev eM:=@PySem.wpAny_seqItems
abbrev eN:=@PyProof.Rows.callWith_type1
abbrev eT:=@PySem.wpAny_mono
abbrev eZ:=@PySem.wpAny_callSpecial?_slot
abbrev fb:=@beq_iff_eq
abbrev fc:=@Nat.lt_succ_of_lt
abbrev ff:=@List.mem_map_of_mem
abbrev fj:=@List.append_nil
abbrev fA:=@Array.getElem?_eq_getElem
abbrev fJ:=@List.any_eq_true
abbrev fN:=@List.eq_nil_of_length_eq_zero
abbrev fZ:=@Ne.symm
abbrev f6:=@Bool.not_eq_true'
abbrev gb:=@List.map_congr_left
abbrev gc:=@PySem.Around.under_plainId
abbrev gx:=@Nat.ne_of_gt
abbrev gy:=@PySem.wpAny_newObj_type
abbrev gH:=@List.contains_iff_mem
abbrev gJ:=@PySem.Heap.get?_update_other
abbrev gN:=@PySem.wpAny_field
abbrev gW:=@congrArg
abbrev gX:=@Nat.succ_mul
abbrev gY:=@Nat.sub_self
abbrev gZ:=@Nat.le_of_lt
abbrev ic:=@List.any_cons
abbrev iD:=@PySem.wpAny_specialOf
abbrev iE:=@PySem.wpAny_loadPart'
abbrev iF:=@PySem.codeAny_builtin
abbrev iG:=@List.filterMap_cons
abbrev iI:=@Nat.lt_succ_self
abbrev iJ:=@Nat.le_add_right
abbrev iK:=@List.lookup_cons
abbrev iL:=@List.length_eq_zero_iff
abbrev iM:=@List.length_drop
abbrev i3:=@Nat.lt_or_ge
abbrev i4:=@List.length_pos_of_mem
abbrev jd:=@PySem.wpAny_isInstance
abbrev je:=@PySem.wpAny_forIn_list
abbrev jg:=@List.all_cons
abbrev jD:=@List.take_append_drop
abbrev jE:=@List.length_singleton
abbrev jF:=@List.getElem?_eq_none
abbrev jG:=@of_decide_eq_true
abbrev jH:=@Array.getD_eq_getD_getElem?
abbrev jJ:=@PySem.wpAny_setField_rec
abbrev jK:=@PySem.wpAny_Call_Name_kw
abbrev jW:=@PySem.wpAny_passesOwn
abbrev jX:=@List.mem_erase_of_ne
abbrev jY:=@List.forIn_nil
abbrev j8:=@PySem.Paired.length
abbrev kq:=@List.nodup_range
abbrev kr:=@List.map_nil
abbrev ku:=@List.mem_of_find?_eq_some
abbrev kW:=@PySem.F.type_list_append
abbrev kX:=@PySem.F.slot_list_append
abbrev kY:=@List.length_erase_of_mem
abbrev kZ:=@PySem.F.slot_tuple_iterator_next
abbrev k9:=@Bool.true_and
abbrev lu:=@List.length_zip
abbrev ly:=@List.forIn_cons
abbrev lO:=@List.mem_filterMap
abbrev lP:=@Array.forIn_toList
abbrev lQ:=@decide_eq_false_iff_not
abbrev lR:=@Nat.le_succ
abbrev mI:=@Option.isSome_map
abbrev mJ:=@Bool.not_false
abbrev nq:=@PySem.wpAny_rule
abbrev nu:=@PySem.F.slot_dict_pop
abbrev ny:=@List.perm_append_comm
abbrev oA:=@Array.toList_map
abbrev oS:=@PySem.codeAny_mono
abbrev oU:=@PySem.Calls.callWith_builtin
abbrev oV:=@Bool.or_eq_false_iff
abbrev qo:=@List.find?_some
abbrev qK:=@Function.comp_apply
abbrev qO:=@Nat.le_of_eq
abbrev rU:=@PySem.plainId_quiet
abbrev tm:=@List.filter_append
abbrev uT:=@List.getElem?_zip_eq_some
abbrev uV:=@Nat.le_of_succ_le
abbrev vV:=@PySem.wpAny_typeOf
abbrev vW:=@PySem.W.KasT.kasWp_bind
abbrev vX:=@Int.ofNat_inj
abbrev xi:=@PySem.wpAny_setField
abbrev xj:=@PySem.wpAny_eqBool_tuple
abbrev xk:=@PySem.tupleKind_room_in1
abbrev xm:=@List.not_mem_nil
abbrev xn:=@List.getElem?_cons_zero
abbrev xo:=@List.getElem?_cons_succ
abbrev xp:=@PySem.Calls.spliced_cons
abbrev zH:=@PySem.W.cellsFrom_some
abbrev zI:=@Nat.zero_add
abbrev zJ:=@List.take_of_length_le
abbrev zK:=@List.getElem?_set_self
abbrev zL:=@PySem.Calls.call_function_entry
abbrev zP:=@PySem.wpAny_storeSet_of
abbrev zQ:=@PySem.wpAny_pyIter_list
abbrev zR:=@List.range_succ
abbrev zS:=@List.of_mem_zip
abbrev zT:=@List.filter_nil
abbrev zU:=@PySem.F.plain_list_iadd
abbrev AF:=@PySem.wpAny_attempt
abbrev AG:=@PySem.W.methodCall_KW
abbrev AH:=@PySem.AutoSeq1.sub_tuple_tuple
abbrev C0:=@PySem.wpAny_pyIter_zip
abbrev C1:=@PySem.wpAny_askSetting
abbrev C2:=@List.nodup_nil
abbrev C3:=@List.mem_of_mem_take
abbrev C4:=@List.mem_of_mem_drop
abbrev C5:=@List.getElem?_set_ne
abbrev C6:=@List.Perm.refl
abbrev C7:=@Bool.and_false
abbrev C8:=@Array.size_map
abbrev EZ:=@PySem.richCompare_meets_room
abbrev E1:=@PySem.intKind_is
abbrev E2:=@PySem.W.plainGet_of
abbrev E3:=@List.flatMap_append
abbrev Fc:=@PySem.wpAny_updateSeq
abbrev Fd:=@PySem.wpAny_execs_nil
abbrev Fe:=@PySem.pushCells_keeps
abbrev Ff:=@PySem.W.mg_of
abbrev Fg:=@List.map_take
abbrev Fh:=@List.map_drop
abbrev Fj:=@PySem.F.slot_zip_next
abbrev Fl:=@Bool.false_or
abbrev GF:=@PySem.isSubtype_tuple_tuple
abbrev GG:=@PySem.W.callWith_K
abbrev GH:=@PySem.Obj.isFreed_of_fields
abbrev GI:=@Nat.lt_of_le_of_lt
abbrev GJ:=@List.zip_nil_right
abbrev Jw:=@PySem.wpAny_updateSeq_pair
abbrev Jx:=@PySem.wpAny_letGo
abbrev Jy:=@PySem.Value.type.inj
abbrev Jz:=@Nat.add_zero
abbrev JA:=@List.zip_nil_left
abbrev JB:=@List.length_range
abbrev JC:=@List.flatten_cons
abbrev JD:=@List.append_assoc
abbrev JE:=@Int.lt_trans
abbrev JF:=@PySem.Calls.evalArgs_plain
abbrev JM:=@PyProof.Rows.F.plain_set_update_loop
abbrev Mb:=@List.getElem_inj
abbrev Mn:=@PySem.wpAny_onRaise
abbrev Mo:=@PySem.wpAny_newList
abbrev N8:=@PySem.wpAny_tupleItemsOf
abbrev N9:=@PySem.W.length_le_weightAllW
abbrev Oa:=@Nat.min_le_left
abbrev fw:=PySem.Value->PySem.Shared->Prop
abbrev jB:=PySem.Str->Option PySem.Value
abbrev c9:=PySem.W.Frag
namespace Pb
open Vbptae
theorem AK(p:Nat->Bool):∀(N s k:Nat),k<=N->(∀i,i<k->p (s+i)=true)->(k<N->p (s+k)=false)->((List.range' s N).takeWhile p).length=k
 |0,s,k,hk,_,_=>by
  have:k=0:=by omega
  subst this;simp
 |N+1,s,0,_,_,h2=>by
  rw[List.range'_succ,List.takeWhile_cons];have e:p s=false:=h2 (by omega);rw[e];rfl
 |N+1,s,k+1,hk,h1,h2=>by
  rw[List.range'_succ,List.takeWhile_cons];have e:p s=true:=h1 0 (by omega);rw[e];simp only[dD,aq];rw[AK p N (s+1) k (by omega) (λi hi=>by have:=h1 (i+1) (by omega);rw[show s+1+i=s+(i+1) by omega];exact this) (λF6=>by rw[show s+1+k=s+(k+1) by omega];exact h2 (by omega))]
theorem Dn(p:Nat->Bool){N k:Nat}(hk:k<=N)(h1:∀i,i<k->p i=true)(h2:k<N->p k=false):((List.range N).takeWhile p).length=k:=by
 rw[List.range_eq_range'];exact AK p N 0 k hk (λi hi=>by rw[zI];exact h1 i hi) (λh=>by rw[zI];exact h2 h)
def nz(y:Nat):Nat:=if leap y=true then 366 else 365
theorem Fn:∀i,i<312->yearStart (1900+i+1)=yearStart (1900+i)+nz (1900+i):=by decide +kernel
theorem mK{y:Nat}(h1:1900<=y)(h2:y<=2211):yearStart (y+1)=yearStart y+nz y:=by
 have:=Fn (y-1900) (by omega);rw[show 1900+(y-1900)=y by omega]at this;exact this
theorem Di(y:Nat):365<=nz y:=by unfold nz;split<;>omega
theorem qp:∀{k y:Nat},1900<=y->y+k<=2212->yearStart y+365*k<=yearStart (y+k)
 |0,y,_,_=>by simp
 |k+1,y,h1,h2=>by
  have a:=qp (k:=k) h1 (by omega);have b:=mK (y:=y+k) (by omega) (by omega);have c:=Di (y+k);rw[show y+(k+1)=y+k+1 by omega];omega
theorem G9(y:Nat):monthStart y 1=0:=rfl
theorem iY{y m:Nat}(h:1<=m):monthStart y (m+1)=monthStart y m+monthLength y m:=by
 unfold monthStart;rw[show m+1-1=(m-1)+1 by omega,zR,aZ,List.sum_append];simp only[aT,kr,List.sum_cons,List.sum_nil,Jz];rw[show m-1+1=m by omega]
theorem iU(y m:Nat):28<=monthLength y m/\monthLength y m<=31:=by
 unfold monthLength
 repeat' split
 all_goals omega
theorem nW:∀{k y m:Nat},1<=m->monthStart y m+28*k<=monthStart y (m+k)
 |0,y,m,_=>by simp
 |k+1,y,m,h=>by
  have a:=nW (k:=k) (y:=y) h;have b:=iY (y:=y) (m:=m+k) (by omega);have c:=iU y (m+k);rw[show m+(k+1)=m+k+1 by omega];omega
theorem D6(y:Nat):monthStart y 13=nz y:=by
 unfold nz
 by_cases h:leap y=true
 ·rw[az h]
  simp[monthStart,monthLength,zR,h]
 ·rw[aw h]
  simp[monthStart,monthLength,zR,h]
structure Vd(y m d:Nat):Prop where
 y1:1900<=y
 y2:y<=2209
 m1:1<=m
 m2:m<=12
 d1:1<=d
 d2:d<=monthLength y m
theorem Vd.Cv{y m d:Nat}(v:Vd y m d):monthStart y m+(d-1)<nz y:=by
 have a:=nW (k:=12-m) (y:=y) (m:=m+1) (by omega);have b:=iY (y:=y) v.m1;have e:m+1+(12-m)=13:=by have:=v.m2;omega
 rw[e,D6]at a;have:=v.d1;have:=v.d2;omega
theorem Vd.dateOf{y m d:Nat}(v:Vd y m d):dateOf (dayOf y m d)=(y,m,d):=by
 have hy:=v.y1;have hy2:=v.y2;have iy:=v.Cv;have ey:((List.range 310).takeWhile λi=>decide (yearStart (1901+i)<=dayOf y m d)).length=y-1900:=by
  refine Dn _ (by omega) (λi hi=>?_) (λh=>?_)
  ·refine aJ ?_
   have:=qp (k:=y-(1901+i)) (y:=1901+i) (by omega) (by omega);rw[show 1901+i+(y-(1901+i))=y by omega]at this;unfold dayOf;omega
  ·refine aD ?_
   have:=mK (y:=y) v.y1 (by omega);rw[show 1901+(y-1900)=y+1 by omega];unfold dayOf;omega
 have er:dayOf y m d-yearStart y=monthStart y m+(d-1):=by unfold dayOf;omega
 have em:((List.range 11).takeWhile λi=>decide (monthStart y (i+2)<=monthStart y m+(d-1))).length=m-1:=by
  have m1:=v.m1;have m2:=v.m2;have d1:=v.d1;have d2:=v.d2;refine Dn _ (by omega) (λi hi=>?_) (λh=>?_)
  ·refine aJ ?_
   have:=nW (k:=m-(i+2)) (y:=y) (m:=i+2) (by omega);rw[show i+2+(m-(i+2))=m by omega]at this;omega
  ·refine aD ?_
   have:=iY (y:=y) v.m1;rw[show m-1+2=m+1 by omega];omega
 unfold Vbptae.dateOf;simp only[];rw[ey,show 1900+(y-1900)=y by omega,er,em];have m1:=v.m1;have d1:=v.d1;rw[show 1+(m-1)=m by omega,show monthStart y m+(d-1)-monthStart y m+1=d by omega]
def RS(y m d y' m' d':Nat):Prop:=y<y'\/(y=y'/\(m<m'\/(m=m'/\d<d')))
theorem Vd.lt{y m d y' m' d':Nat}(v:Vd y m d)(v':Vd y' m' d')(h:RS y m d y' m' d'):dayOf y m d<dayOf y' m' d':=by
 have a:=v.Cv;have hy:=v.y1;have hy2:=v'.y2;unfold dayOf;rcases h with h|⟨rfl,h|⟨rfl,h⟩⟩
 ·have b:=mK (y:=y) v.y1 (by omega)
  have c:=qp (k:=y'-(y+1)) (y:=y+1) (by omega) (by omega);rw[show y+1+(y'-(y+1))=y' by omega]at c;omega
 ·have b:=iY (y:=y) v.m1
  have c:=nW (k:=m'-(m+1)) (y:=y) (m:=m+1) (by omega);rw[show m+1+(m'-(m+1))=m' by omega]at c;have:=v.d1;have:=v.d2;omega
 ·have:=v.d1
  omega
theorem NS(y m d y' m' d':Nat):RS y m d y' m' d'\/(y=y'/\m=m'/\d=d')\/RS y' m' d' y m d:=by
 unfold RS;omega
theorem Vd.lt_iff{y m d y' m' d':Nat}(v:Vd y m d)(v':Vd y' m' d'):RS y m d y' m' d'↔dayOf y m d<dayOf y' m' d':=by
 refine⟨v.lt v',λh=>?_⟩;rcases NS y m d y' m' d' with q|⟨rfl,rfl,rfl⟩|q
 ·exact q
 ·exact absurd h (dJ _)
 ·exact absurd (v'.lt v q) (by omega)
theorem G6{y m d:Nat}(v:Vd y m d)(h:d<monthLength y m):Vd y m (d+1)/\dayOf y m (d+1)=dayOf y m d+1:=by
 have:=v.d1;refine⟨⟨v.y1,v.y2,v.m1,v.m2,by omega,by omega⟩,?_⟩;unfold dayOf;omega
theorem yD{y m d:Nat}(v:Vd y m d)(h:¬d<monthLength y m)(hm:m<12):Vd y (m+1) 1/\dayOf y (m+1) 1=dayOf y m d+1:=by
 have a:=iU y (m+1);have b:=iY (y:=y) v.m1;have:=v.d1;have:=v.d2;refine⟨⟨v.y1,v.y2,by omega,by omega,by omega,by omega⟩,?_⟩;unfold dayOf;omega
theorem A5{y m d:Nat}(v:Vd y m d)(h:¬d<monthLength y m)(hm:¬m<12)(hy:y<2209):Vd (y+1) 1 1/\dayOf (y+1) 1 1=dayOf y m d+1:=by
 have a:=iU (y+1) 1;have b:=iY (y:=y) v.m1;have c:=D6 y;have e:=mK (y:=y) v.y1 (by have:=v.y2;omega);have:=v.d1;have:=v.d2;have:=v.m2;have:=v.y1;have hm':m=12:=by omega
 subst hm';have b':monthStart y 13=monthStart y 12+monthLength y 12:=b;refine⟨⟨by omega,by omega,by omega,by omega,by omega,by omega⟩,?_⟩;unfold dayOf;rw[G9];omega
theorem later{y m d:Nat}(v:Vd y m d)(hy:y<2209):Vd (y+1) m (min d (monthLength (y+1) m))/\yearLater (dayOf y m d)=dayOf (y+1) m (min d (monthLength (y+1) m)):=by
 have a:=iU (y+1) m;have:=v.d1;have:=v.y1;refine⟨⟨by omega,by omega,v.m1,v.m2,by omega,by omega⟩,?_⟩;unfold yearLater;rw[v.dateOf]
theorem SS{y:Nat}(h1:1900<=y):((y-1)/4:Nat)-(y-1)/100+(y-1)/400=leapsBefore y+460:=by
 unfold leapsBefore;omega
theorem Fo{y m d:Nat}(v:Vd y m d):
  (365*((y:Int)-1)+((y:Int)-1)/4-((y:Int)-1)/100+((y:Int)-1)/400+(monthStart y m:Int)+(d:Int)-1)%7=((dayOf y m d%7:Nat):Int):=by
 have:=v.y1;have:=v.d1;have e:=SS v.y1;unfold dayOf yearStart;omega
theorem Vd.DY{y m d:Nat}(v:Vd y m d)(h:dayOf y m d+1<yearStart 2209):y<2209:=by
 apply bI;intro q;have:y=2209:=by have:=v.y2;omega
 subst this;unfold dayOf at h;omega
def cut(k:Nat):Nat->List Int->List (List Int)
 |0,_=>[]
 |n+1,l=>l.take k::cut k n (l.drop k)
theorem fG(k:Nat):∀(n:Nat)(l:List Int),(cut k n l).length=n
 |0,_=>rfl
 |n+1,l=>by rw[cut,aq,fG k n]
theorem Hx(k:Nat):∀(n:Nat)(l:List Int)(i:Nat),i<n->(cut k n l)[i]?=some ((l.drop (i*k)).take k)
 |n+1,l,0,_=>by simp[cut]
 |n+1,l,i+1,h=>by
  rw[cut,xo,Hx k n (l.drop k) i (by omega),List.drop_drop,show k+i*k=(i+1)*k by rw[gX];omega]
theorem yq(k:Nat):∀(n:Nat)(l:List Int),pieces k n (l.map Int.toNat)=(cut k n l).map λb=>b.map Int.toNat
 |0,_=>rfl
 |n+1,l=>by
  rw[pieces,cut,aT,<-Fg,<-Fh,yq k n]
theorem zi{k:Nat}:∀(n:Nat)(l:List Int),l.length=n*k->(cut k n l).flatten=l
 |0,l,h=>by
  have:l=[]:=fN (by omega);subst this;rfl
 |n+1,l,h=>by
  rw[cut,JC,zi n (l.drop k) (by rw[iM,h,gX];omega),jD]
theorem uE{k:Nat}:∀(n:Nat)(l:List Int),l.length=n*k->∀b∈cut k n l,b.length=k
 |0,l,h,b,hb=>by cases hb
 |n+1,l,h,b,hb=>by
  rw[gX]at h;rcases aB.mp hb with e|e
  ·rw[e,bW]
   omega
  ·exact uE n (l.drop k) (by rw[iM];omega) b e
def iA:List Int->List Nat->Bool
 |x::xs,k::ks=>decide (1<=x)&&decide (x<2^k)&&iA xs ks
 |_,_=>true
theorem pX:∀(b:List Int)(ks:List Nat),b.length=ks.length->iA b ks=true->∀x∈b,1<=x
 | [],[],_,_,x,hx=>by cases hx
 |x::xs,k::ks,hl,h,y,hy=>by
  simp only[iA,a6,cx]at h;rcases aB.mp hy with e|e
  ·rw[e];exact h.1.1
  ·exact pX xs ks (by simpa using hl) h.2 y e
theorem mG:∀(b:List Int)(ks:List Nat),b.length=ks.length->(∀x∈b,0<=x)->
  ((b.map Int.toNat).zip ks).all (λp=>decide (1<=p.1/\p.1<2^p.2))=iA b ks
 | [],[],_,_=>rfl
 |x::xs,k::ks,hl,hp=>by
  rw[aT,dH,jg,iA,mG xs ks (by simpa using hl) (λy hy=>hp y (ao _ hy))];congr 1;have h0:0<=x:=hp x ax;have e:((2:Int)^k)=((2^k:Nat):Int):=by simp
  rw[e,bz];simp only[cx,a6];omega
theorem toNat_inj:∀(a b:List Int),(∀x∈a,0<=x)->(∀x∈b,0<=x)->a.map Int.toNat=b.map Int.toNat->a=b
 | [],[],_,_,_=>rfl
 | [],_::_,_,_,h=>by simp at h
 |_::_,[],_,_,h=>by simp at h
 |x::xs,y::ys,ha,hb,h=>by
  rw[aT,aT,List.cons.injEq]at h;have h1:=ha x ax;have h2:=hb y ax;rw[toNat_inj xs ys (λz hz=>ha z (ao _ hz)) (λz hz=>hb z (ao _ hz)) h.2,show x=y by have:=h.1;omega]
theorem Ho{α:Type} [BEq α] [LawfulBEq α]:∀(n:Nat)(l:List α),l.length<=n->l.eraseDups.length<=l.length
 |_,[],_=>by simp
 |0,_::_,h=>by simp at h
 |n+1,a::l,h=>by
  rw[List.eraseDups_cons,aq,aq];have h1:(l.filter λb=>!b==a).length<=l.length:=bu _ _
  have:=Ho n (l.filter λb=>!b==a) (by simp at h;omega);omega
theorem sM{α:Type} [BEq α] [LawfulBEq α]:∀(n:Nat)(l:List α),l.length<=n->(l.eraseDups.length=l.length↔l.Nodup)
 |_,[],_=>by simp
 |0,_::_,h=>by simp at h
 |n+1,a::l,h=>by
  rw[List.eraseDups_cons,aq,aq,bY];have h0:l.length<=n:=by simpa using h
  have h1:(l.filter λb=>!b==a).length<=l.length:=bu _ _
  have h2:=Ho n (l.filter λb=>!b==a) (by omega);constructor
  ·intro e
   have e1:(l.filter λb=>!b==a).length=l.length:=by omega
   have e2:l.filter (λb=>!b==a)=l:=by
    have:=List.filter_sublist (l:=l) (p:=λb=>!b==a);exact this.eq_of_length e1
   have ih:=sM n l h0;rw[e2]at e;refine⟨λhm=>?_,ih.mp (by omega)⟩;rw[<-e2]at hm;have:=(cp.mp hm).2
   simp at this
  ·rintro⟨hn,hd⟩
   have e2:l.filter (λb=>!b==a)=l:=List.filter_eq_self.mpr λb hb=>by
    simp only[f6,d4];intro q;exact hn (q▸hb)
   rw[e2,(sM n l h0).mpr hd]
theorem nodup_iff{α:Type} [BEq α] [LawfulBEq α](l:List α):l.eraseDups.length=l.length↔l.Nodup:=sM l.length l (ay _)
def cT(ks:List Nat)(lo:Nat)(l:List Int):Prop:=
 l.length%ks.length=0/\lo<=l.length/ks.length/\l.length/ks.length<=12/\(∀b∈cut ks.length (l.length/ks.length) l,iA b ks=true)/\(cut ks.length (l.length/ks.length) l).Nodup
instance(ks:List Nat)(lo:Nat)(l:List Int):Decidable (cT ks lo l):=by unfold cT;infer_instance
def cw(ks:List Nat)(l:List Int):List Box:=(cut ks.length (l.length/ks.length) l).map λb=>b.map Int.toNat
theorem mm{ks:List Nat}{l:List Int}(h:l.length%ks.length=0):l.length=l.length/ks.length*ks.length:=by
 have:=Nat.div_add_mod l.length ks.length;rw[h,Jz,Nat.mul_comm]at this;exact this.symm
theorem yX{ks:List Nat}{l:List Int}(h:l.length%ks.length=0)(hf:∀b∈cut ks.length (l.length/ks.length) l,iA b ks=true):∀b∈cut ks.length (l.length/ks.length) l,∀x∈b,1<=x:=
 λb hb=>pX b ks (uE _ l (mm h) b hb) (hf b hb)
theorem zt(s:State)(lo:Nat)(l:List Int):
  boxesIn s lo l=if cT s.sizes lo l then .ok (cw s.sizes l)else .error (-4):=by
 unfold boxesIn;simp only[];rw[yq];have key:(l.length%s.sizes.length=0/\(l.all λx=>decide (0<=x))=true/\lo<=((cut s.sizes.length (l.length/s.sizes.length) l).map λb=>b.map Int.toNat).length/\
   ((cut s.sizes.length (l.length/s.sizes.length) l).map λb=>b.map Int.toNat).length<=BOXES/\((cut s.sizes.length (l.length/s.sizes.length) l).map λb=>b.map Int.toNat).all (isBox s)=true/\
   ((cut s.sizes.length (l.length/s.sizes.length) l).map λb=>b.map Int.toNat).eraseDups.length=((cut s.sizes.length (l.length/s.sizes.length) l).map λb=>b.map Int.toNat).length)↔cT s.sizes lo l:=by
  rw[nodup_iff,ab,fG];unfold cT
  by_cases h:l.length%s.sizes.length=0
  ·have hc:=uE _ l (mm h)
   constructor
   ·rintro⟨_,h2,h3,h4,h5,h6⟩
    have hp:∀b∈cut s.sizes.length (l.length/s.sizes.length) l,∀x∈b,0<=x:=λb hb x hx=>by
     have hm:x∈l:=by
      rw[<-zi _ l (mm h)];exact List.mem_flatten.mpr ⟨b,hb,hx⟩
     exact jG (bE.mp h2 x hm)
    refine⟨h,h3,h4,λb hb=>?_,?_⟩
    ·have:=bE.mp h5 (b.map Int.toNat) (ff hb)
     unfold isBox at this;rw[a6]at this;rw[<-mG b s.sizes (hc b hb) (hp b hb)];exact this.2
    ·exact List.Pairwise.of_map _ (λa b Gd e=>Gd (by rw[e])) h6
   ·rintro⟨_,h3,h4,h5,h6⟩
    have hp:=yX h h5;refine⟨h,?_,h3,h4,?_,?_⟩
    ·rw[bE]
     intro x hx;rw[<-zi _ l (mm h)]at hx;obtain⟨b,hb,hx⟩:=List.mem_flatten.mp hx;have:=hp b hb x hx;exact aJ (by omega)
    ·rw[bE]
     intro c Lg;obtain⟨b,hb,rfl⟩:=aV.mp Lg;unfold isBox;rw[mG b s.sizes (hc b hb) (λx hx=>by have:=hp b hb x hx;omega),h5 b hb,ab,hc b hb];simp
    ·rw[bN,cy]
     rw[bN]at h6;refine h6.imp_of_mem λ{a b}ha hb Gd e=>Gd (toNat_inj a b (λx hx=>?_) (λx hx=>?_) e)
     ·have:=hp a ha x hx;omega
     ·have:=hp b hb x hx;omega
  ·constructor
   ·rintro⟨h1,_⟩;exact absurd h1 h
   ·rintro⟨h1,_⟩;exact absurd h1 h
 by_cases g:cT s.sizes lo l
 ·rw[az (key.mpr g),az g]
  rfl
 ·rw[aw (λq=>g (key.mp q)),aw g]
def fK(ks:List Nat)(l:List Int):Prop:=l.length=ks.length/\iA l ks=true
instance(ks:List Nat)(l:List Int):Decidable (fK ks l):=by unfold fK;infer_instance
theorem LV(s:State)(h0:1<=s.sizes.length)(l:List Int):
  boxIn s l=if fK s.sizes l then .ok (l.map Int.toNat)else .error (-4):=by
 unfold boxIn;rw[zt]
 by_cases hl:l.length=s.sizes.length
 ·have e1:l.length/s.sizes.length=1:=by rw[hl];exact Nat.div_self (by omega)
  have e2:cut s.sizes.length (l.length/s.sizes.length) l=[l]:=by
   rw[e1];simp only[cut,<-hl,cM]
  have e3:cT s.sizes 1 l↔fK s.sizes l:=by
   unfold cT fK;rw[e2,e1,hl];simp
  by_cases g:fK s.sizes l
  ·rw[az (e3.mpr g),az g]
   unfold cw;rw[e2];rfl
  ·rw[aw (λq=>g (e3.mp q)),aw g]
   rfl
 ·rw[aw (show¬fK s.sizes l from λq=>hl q.1)]
  by_cases g:cT s.sizes 1 l
  ·rw[az g]
   have e1:l.length/s.sizes.length≠1:=λq=>hl (by have:=mm g.1;rw[q]at this;omega)
   have hlen:(cw s.sizes l).length=l.length/s.sizes.length:=by unfold cw;rw[ab,fG]
   show(match cw s.sizes l with| [b]=>Except.ok b|_=>Except.error (-4))=_
   match q:cw s.sizes l with
   | []=>rfl
   | [b]=>rw[q]at hlen;exact absurd hlen.symm e1
   |_::_::_=>rfl
  ·rw[aw g]
   rfl
def dU(s:State):Res (State×Answer)->State×Answer
 | .ok x=>x
 | .error e=>(s,[e])
def gu(y m d:Int):Prop:=1900<=y/\y<=2199/\1<=m/\m<=12/\1<=d/\d<=(monthLength y.toNat m.toNat:Int)
instance(y m d:Int):Decidable (gu y m d):=by unfold gu;infer_instance
def eB(y m d:Int):Nat:=dayOf y.toNat m.toNat d.toNat
def look(s:State)(n:Int):Option Paper:=if n<0 then none else Vbptae.paper s n.toNat
theorem cU{b:Bool}{e:Int}{s:State}{k:Res (State×Answer)}:dU s (need b e>>=λ_=>k)=if b=true then dU s k else(s,[e]):=by
 unfold need;cases b<;>rfl
theorem jz{n lo hi:Int}{s:State}{k:Nat->Res (State×Answer)}:dU s (num n lo hi>>=k)=if lo<=n/\n<=hi then dU s (k n.toNat)else(s,[-3]):=by
 unfold num;split<;>rfl
theorem ja{y m d:Int}{s:State}{k:Nat->Res (State×Answer)}:dU s (date y m d>>=k)=if gu y m d then dU s (k (eB y m d))else(s,[-2]):=by
 unfold date;show dU s ((if gu y m d then Except.ok (dayOf y.toNat m.toNat d.toNat)else Except.error (-2))>>=k)=_
 by_cases h:gu y m d
 ·rw[az h,az h];rfl
 ·rw[aw h,aw h];rfl
theorem om{lo:Nat}{l:List Int}{s:State}{k:List Box->Res (State×Answer)}:dU s (boxesIn s lo l>>=k)=if cT s.sizes lo l then dU s (k (cw s.sizes l))else(s,[-4]):=by
 rw[zt];split<;>rfl
theorem qd{l:List Int}{s:State}{k:Box->Res (State×Answer)}(h0:1<=s.sizes.length):dU s (boxIn s l>>=k)=if fK s.sizes l then dU s (k (l.map Int.toNat))else(s,[-4]):=by
 rw[LV s h0];split<;>rfl
theorem cP{n:Int}{s:State}{k:Paper->Res (State×Answer)}:dU s (paperAt s n>>=k)=match look s n with|some p=>dU s (k p)|none=>(s,[-5]):=by
 unfold paperAt;show dU s ((match look s n with|some p=>Except.ok p|none=>Except.error (-5))>>=k)=_;cases look s n<;>rfl
theorem iu{s:State}{x:State×Answer}:dU s (return x)=x:=rfl
theorem vS(s:State)(l:List Int):dU s (act s (.field l))=if(1<=l.length/\l.length<=6)/\(∀x∈l,1<=x/\x<=8)then({start with sizes:=l.map Int.toNat},[0])else(s,[-4]):=by
 unfold act;rw[cU];simp[iu]
theorem zw(s:State)(l:List Int):dU s (act s (.rest l))=if l.length<=6/\(∀x∈l,0<=x/\x<=6)then({s with rest:=l.foldl (λr x=>putNum x.toNat r) []},[0])else(s,[-4]):=by
 unfold act;rw[cU];simp[iu]
theorem sW(s:State)(y m d:Int):dU s (act s (.closed y m d))=if gu y m d then(if s.closed.length<200\/eB y m d∈s.closed then({s with closed:=putNum (eB y m d) s.closed},[0])else(s,[-9]))else(s,[-2]):=by
 unfold act;rw[ja];congr 1;rw[cU]
 (try simp only[dq,cx]);simp[iu,CLOSED]
theorem vR(s:State)(n w y m d:Int)(l:List Int):dU s (act s (.paper n w y m d l))=
  if 1<=n/\n<=999 then if 1<=w/\w<=20 then if gu y m d then if cT s.sizes 1 l then if(Vbptae.paper s n.toNat).isNone=true then if s.papers.length<24 then
   ({s with papers:=putPaper {num:=n.toNat,who:=w.toNat,day:=eB y m d,boxes:=cw s.sizes l,parent:=0,names:=[],out:=none,shown:=none} s.papers},[((s.papers.length+1:Nat):Int)])
  else(s,[-9])else(s,[-6])else(s,[-4])else(s,[-2])else(s,[-3])else(s,[-3]):=by
 unfold act;rw[jz,jz,ja,om,cU,cU]
 (try simp only[dq,cx]);simp[iu,PAPERS]<;>rfl
theorem zx(s:State)(n q y m d:Int)(l:List Int):dU s (act s (.part n q y m d l))=
  if 1<=n/\n<=999 then if gu y m d then if cT s.sizes 1 l then match look s q with
   |none=>(s,[-5])
   |some p=>if(Vbptae.paper s n.toNat).isNone=true then
     if p.day<=eB y m d/\(p.out.any λo=>decide (o.1<eB y m d))=false/\(∀b∈cw s.sizes l,b∈p.boxes)then if s.papers.length<24 then
      ({s with papers:=putPaper {num:=n.toNat,who:=p.who,day:=eB y m d,boxes:=cw s.sizes l,parent:=p.num,names:=[],out:=none,shown:=none} s.papers},[((s.papers.length+1:Nat):Int)])
     else(s,[-9])else(s,[-7])else(s,[-6])
  else(s,[-4])else(s,[-2])else(s,[-3]):=by
 unfold act;rw[jz,ja,om,cP];congr 1;congr 1;congr 1;cases look s q with
 |none=>rfl
 |some p=>
  simp only[];rw[cU,cU,cU]
  (try simp only[dq,cx]);simp[iu,PAPERS]<;>rfl
theorem zy(s:State)(n q:Int):dU s (act s (.name n q))=match look s n with
  |none=>(s,[-5])
  |some p=>match look s q with
   |none=>(s,[-5])
   |some r=>if p.parent=0/\p.num≠r.num/\r.day<=p.day then if r.num∉p.names then if p.names.length<8 then
     (changed s p.num λx=>{x with names:=putNum r.num x.names},[0])else(s,[-9])else(s,[-8])else(s,[-7]):=by
 unfold act;rw[cP];cases look s n with
 |none=>rfl
 |some p=>
  simp only[];rw[cP];cases look s q with
  |none=>rfl
  |some r=>
   simp only[];rw[cU,cU,cU]
   (try simp only[dq,cx]);simp[iu,NAMES]<;>rfl
theorem zA(s:State)(n q:Int):dU s (act s (.give n q))=match look s n with
  |none=>(s,[-5])
  |some p=>match look s q with
   |none=>(s,[-5])
   |some r=>if r.num∈p.names then(without s p.num r.num,[0])else(s,[-8]):=by
 unfold act;rw[cP];cases look s n with
 |none=>rfl
 |some p=>
  simp only[];rw[cP];cases look s q with
  |none=>rfl
  |some r=>
   simp only[];rw[cU];simp[iu]
theorem oq(s:State)(n y m d x:Int):dU s (act s (.withdraw n y m d x))=
  if 0<=x/\x<=1 then if gu y m d then match look s n with
   |none=>(s,[-5])
   |some p=>if p.day<=eB y m d/\(s.papers.any λr=>r.parent==p.num&&decide (eB y m d<r.day))=false then if p.out.isNone=true then
     (changed s p.num λr=>{r with out:=some (eB y m d,x.toNat==1)},[0])else(s,[-8])else(s,[-7])
  else(s,[-2])else(s,[-3]):=by
 unfold act;rw[jz,ja,cP];congr 1;congr 1;cases look s n with
 |none=>rfl
 |some p=>
  simp only[];rw[cU,cU];simp only[iu,a6,cx,f6]
theorem qi(s:State)(n y m d:Int):dU s (act s (.publish n y m d))=
  if gu y m d then match look s n with
   |none=>(s,[-5])
   |some p=>if p.day<=eB y m d then if p.shown.isNone=true then
     (changed s p.num λr=>{r with shown:=some (eB y m d)},[0])else(s,[-8])else(s,[-7])
  else(s,[-2]):=by
 unfold act;rw[ja,cP];congr 1;cases look s n with
 |none=>rfl
 |some p=>
  simp only[];rw[cU,cU];simp only[iu,cx]
theorem zz(s:State)(k q a b y m d:Int)(l:List Int):dU s (act s (.hand k q a b y m d l))=
  if 1<=k/\k<=999 then if 1<=a/\a<=20 then if 1<=b/\b<=20 then if gu y m d then if cT s.sizes 0 l then match look s q with
   |none=>(s,[-5])
   |some p=>if(∀e∈s.deeds,e.num≠k.toNat)then if(∀x∈cw s.sizes l,x∈p.boxes)then if s.deeds.length<40 then
     ({s with deeds:=putDeed {num:=k.toNat,paper:=p.num,giver:=a.toNat,taker:=b.toNat,day:=eB y m d,boxes:=if(cw s.sizes l).isEmpty=true then p.boxes else cw s.sizes l} s.deeds},[0])
     else(s,[-9])else(s,[-7])else(s,[-6])
  else(s,[-4])else(s,[-2])else(s,[-3])else(s,[-3])else(s,[-3]):=by
 unfold act;rw[jz,jz,jz,ja,om,cP];congr 1;congr 1;congr 1;congr 1;congr 1;cases look s q with
 |none=>rfl
 |some p=>
  simp only[];rw[cU,cU,cU]
  (try simp only[dq,cx]);simp[iu,DEEDS]
theorem xN(s:State)(h0:1<=s.sizes.length)(n:Int)(l:List Int):dU s (act s (.day n l))=
  if fK s.sizes l then match look s n with
   |none=>(s,[-5])
   |some p=>if l.map Int.toNat∈p.boxes then(s,0::shown (dayIn s p (l.map Int.toNat)).1++ [((dayIn s p (l.map Int.toNat)).2:Int)])else(s,[-7])
  else(s,[-4]):=by
 unfold act;rw[qd h0,cP];congr 1;cases look s n with
 |none=>rfl
 |some p=>
  simp only[];rw[cU];simp[iu]
theorem uQ(s:State)(n:Int):dU s (act s (.days n))=match look s n with
  |none=>(s,[-5])
  |some p=>(s,(p.boxes.length:Int)::p.boxes.flatMap λb=>shown (dayIn s p b).1++ [((dayIn s p b).2:Int)]):=by
 unfold act;rw[cP];cases look s n<;>rfl
theorem xM(s:State)(h0:1<=s.sizes.length)(n q:Int)(l:List Int):dU s (act s (.why n q l))=
  if fK s.sizes l then match look s n with
   |none=>(s,[-5])
   |some p=>match look s q with
    |none=>(s,[-5])
    |some r=>(s,[(Vbptae.why s p r (l.map Int.toNat):Int)])
  else(s,[-4]):=by
 unfold act;rw[qd h0,cP];congr 1;cases look s n with
 |none=>rfl
 |some p=>
  simp only[];rw[cP];cases look s q<;>rfl
theorem qC(s:State)(q:Int):dU s (act s (.limit q))=match look s q with
  |none=>(s,[-5])
  |some r=>(s,0::shown (Vbptae.limit s r)):=by
 unfold act;rw[cP];cases look s q<;>rfl
theorem qD(s:State)(h0:1<=s.sizes.length)(w:Int)(l:List Int):dU s (act s (.first w l))=
  if 1<=w/\w<=20 then if fK s.sizes l then
   (s,0::Vbptae.ints ((s.papers.filter λp=>p.who==w.toNat&&(p.boxes.contains (l.map Int.toNat)&&Vbptae.isFirst s p (l.map Int.toNat))).map λp=>p.num))
  else(s,[-4])else(s,[-3]):=by
 unfold act;rw[jz,qd h0];rfl
theorem ou(s:State)(h0:1<=s.sizes.length)(q y m d:Int)(l:List Int):dU s (act s (.holder q y m d l))=
  if gu y m d then if fK s.sizes l then match look s q with
   |none=>(s,[-5])
   |some r=>if l.map Int.toNat∈r.boxes then(s,[(Vbptae.holder s r (l.map Int.toNat) (eB y m d):Int)])else(s,[-7])
  else(s,[-4])else(s,[-2]):=by
 unfold act;rw[ja,qd h0,cP];congr 1;congr 1;cases look s q with
 |none=>rfl
 |some p=>
  simp only[];rw[cU];simp[iu]
theorem ow(s:State)(n:Int):dU s (act s (.family n))=match look s n with
  |none=>(s,[-5])
  |some p=>(s,0::Vbptae.ints (Vbptae.family s p.num)):=by
 unfold act;rw[cP];cases look s n<;>rfl
theorem qG(s:State)(n:Int):dU s (act s (.alike n))=match look s n with
  |none=>(s,[-5])
  |some p=>(s,0::Vbptae.ints (alikeFamily s p)):=by
 unfold act;rw[cP];cases look s n<;>rfl
theorem uP(s:State)(n q:Int):dU s (act s (.lost n q))=match look s n with
  |none=>(s,[-5])
  |some p=>match look s q with
   |none=>(s,[-5])
   |some r=>(s,0::(Vbptae.lost s p r.num).flatMap λx=>(x.1:Int)::shown x.2):=by
 unfold act;rw[cP];cases look s n with
 |none=>rfl
 |some p=>
  simp only[];rw[cP];cases look s q<;>rfl
theorem qE(s:State)(h0:1<=s.sizes.length)(w y m d:Int)(l:List Int):dU s (act s (.could w y m d l))=
  if 1<=w/\w<=20 then if gu y m d then if fK s.sizes l then
   (s,0::shown (Vbptae.could s w.toNat (l.map Int.toNat) (eB y m d)).1++ [((Vbptae.could s w.toNat (l.map Int.toNat) (eB y m d)).2:Int)])
  else(s,[-4])else(s,[-2])else(s,[-3]):=by
 unfold act;rw[jz,ja,qd h0];rfl
theorem qF(s:State)(n:Int)(l:List Int):dU s (act s (.claim n l))=
  if cT s.sizes 1 l then match look s n with
   |none=>(s,[-5])
   |some p=>if(∀b∈cw s.sizes l,b∈p.boxes)then
     (s,((((cw s.sizes l).map λb=>(dayIn s p b).1).foldl (λl t=>putNum t l) []).length:Int)::
      (((cw s.sizes l).map λb=>(dayIn s p b).1).foldl (λl t=>putNum t l) []).flatMap λt=>shown t++ [((((cw s.sizes l).filter λb=>(dayIn s p b).1==t).length:Nat):Int)])
    else(s,[-7])
  else(s,[-4]):=by
 unfold act;rw[om,cP];congr 1;cases look s n with
 |none=>rfl
 |some p=>
  simp only[];rw[cU];simp only[iu,bE,gH]
theorem uO(s:State)(n:Int):dU s (act s (.told n))=match look s n with
  |none=>(s,[-5])
  |some p=>(s,[(p.who:Int)]++shown p.day++ [(p.parent:Int),(p.boxes.length:Int)]++Vbptae.ints p.boxes.flatten++(p.names.length:Int)::Vbptae.ints p.names++(match p.out with
   |none=>[0]
   |some o=>1::shown o.1++ [if o.2=true then 1 else 0])++(match p.shown with
   |none=>[0]
   |some x=>1::shown x)):=by
 unfold act;rw[cP];cases look s n<;>rfl
theorem step_eq(s:State){c:List (List Int)}{x:Call}(h:decode c=some x):step s c=dU s (act s x):=by
 unfold step;rw[h];simp only[];cases act s x<;>rfl
theorem jO{x y:Nat}:∀{l:List Nat},y∈putNum x l↔y=x\/y∈l
 | []=>by simp[putNum]
 |z::l=>by
  unfold putNum;split
  ·simp
  ·split
   ·rename_i h
    subst h;simp
   ·rw[aB,jO,aB]
    constructor
    ·rintro(h|h|h)
     ·exact .inr (.inl h)
     ·exact .inl h
     ·exact .inr (.inr h)
    ·rintro(h|h|h)
     ·exact .inr (.inl h)
     ·exact .inl h
     ·exact .inr (.inr h)
theorem pD{x:Nat}:∀{l:List Nat},x∉l->(putNum x l).Perm (x::l)
 | [],_=>.refl _
 |z::l,h=>by
  have h1:x≠z:=λe=>h (e▸ax)
  have h2:x∉l:=λe=>h (ao _ e)
  unfold putNum;split
  ·exact .refl _
  ·exact((pD h2).cons z).trans (.swap x z l)
theorem pC{x:Nat}:∀{l:List Nat},l.Pairwise (· < ·)->x∈l->putNum x l=l
 | [],_,h=>by cases h
 |z::l,hp,h=>by
  rw[b0]at hp;unfold putNum;rcases aB.mp h with e|e
  ·subst e
   simp
  ·have:=hp.1 x e
   rw[aw (by omega),aw (by omega),pC hp.2 e]
theorem gL{x:Nat}:∀{l:List Nat},l.Pairwise (· < ·)->(putNum x l).Pairwise (· < ·)
 | [],_=>by simp[putNum]
 |z::l,hp=>by
  have j7:=hp;rw[b0]at hp;unfold putNum;split
  ·rw[b0]
   exact⟨λy hy=>(aB.mp hy).elim (λe=>by omega) λe=>by have:=hp.1 y e;omega,j7⟩
  ·split
   ·exact j7
   ·rw[b0]
    exact⟨λy hy=>(jO.mp hy).elim (λe=>by omega) λe=>hp.1 y e,gL hp.2⟩
theorem j3{x:Nat}(l:List Nat):(putNum x l).length<=l.length+1:=by
 induction l with
 |nil=>simp[putNum]
 |cons z l ih=>
  unfold putNum;split
  ·simp
  ·split
   ·simp
   ·simp;exact ih
theorem f7{p:Paper}:∀{l:List Paper},(putPaper p l).Perm (p::l)
 | []=>.refl _
 |q::l=>by
  unfold putPaper;split
  ·exact .refl _
  ·exact(f7.cons q).trans (.swap p q l)
theorem oJ{p:Paper}:∀{l:List Paper},l.Pairwise (λa b=>a.num<b.num)->(∀q∈l,q.num≠p.num)->(putPaper p l).Pairwise (λa b=>a.num<b.num)
 | [],_,_=>by simp[putPaper]
 |q::l,hp,hn=>by
  have j7:=hp;rw[b0]at hp;have hq:=hn q ax;unfold putPaper;split
  ·rw[b0]
   exact⟨λy hy=>(aB.mp hy).elim (λe=>by rw[e];assumption) λe=>by have:=hp.1 y e;omega,j7⟩
  ·rw[b0]
   refine⟨λy hy=>?_,oJ hp.2 λr hr=>hn r (ao _ hr)⟩;rcases aB.mp (f7.mem_iff.mp hy)with e|e
   ·rw[e];omega
   ·exact hp.1 y e
def m7(a b:Deed):Prop:=a.day<b.day\/(a.day=b.day/\a.num<b.num)
theorem ik{p:Deed}:∀{l:List Deed},(putDeed p l).Perm (p::l)
 | []=>.refl _
 |q::l=>by
  unfold putDeed;split
  ·exact .refl _
  ·exact(ik.cons q).trans (.swap p q l)
theorem pE{p:Deed}:∀{l:List Deed},l.Pairwise m7->(∀q∈l,q.num≠p.num)->(putDeed p l).Pairwise m7
 | [],_,_=>by simp[putDeed]
 |q::l,hp,hn=>by
  have j7:=hp;rw[b0]at hp;have hq:=hn q ax;unfold putDeed;split
  ·rename_i h
   rw[b0];exact⟨λy hy=>(aB.mp hy).elim (λe=>by rw[e];exact h) λe=>by have:=hp.1 y e;unfold m7 at *;omega,j7⟩
  ·rename_i h
   rw[b0];refine⟨λy hy=>?_,pE hp.2 λr hr=>hn r (ao _ hr)⟩;rcases aB.mp (ik.mem_iff.mp hy)with e|e
   ·rw[e];unfold m7;omega
   ·exact hp.1 y e
theorem dW{α:Type} [DecidableEq α]:∀{l k:List α},l.Nodup->(∀x∈l,x∈k)->l.length<=k.length
 | [],_,_,_=>bp _
 |a::l,k,hn,hs=>by
  rw[bY]at hn;have h1:a∈k:=hs a ax;have h2:=dW (k:=k.erase a) hn.2 λx hx=>(jX (λ(e:x=a)=>hn.1 (by rw[<-e];exact hx))).mpr (hs x (ao _ hx))
  have h3:=kY h1;have h4:=i4 h1;simp only[aq];omega
theorem BZ{r:List Nat}(h:r.length<=6):∃w,w<7/\w∉r:=by
 apply bI;intro q;have:=dW (l:=List.range 7) (k:=r) kq λx hx=>by
  apply bI;intro z;exact q ⟨x,dI.mp hx,z⟩
 simp at this;omega
theorem rq{f:Nat->Nat}(hf:∀a b,f a=f b->a=b):∀{l:List Nat},l.Nodup->(l.map f).Nodup
 | [],_=>by simp
 |a::l,h=>by
  rw[bY]at h;rw[aT,bY];refine⟨λq=>?_,rq hf h.2⟩;obtain⟨b,hb,e⟩:=aV.mp q;exact h.1 (hf b a e▸hb)
theorem KA(s:State)(h:s.rest.length<=6)(hc:s.closed.length<=200)(n:Nat):∃k,k<1407/\isClosed s (n+k)=false:=by
 obtain⟨w,hw,hr⟩:=BZ h;apply bI;intro q;have h0:=dW (l:=(List.range 201).map λj=>n+(w+7-n%7)%7+7*j) (k:=s.closed) (rq (λa b e=>by omega) kq) λx hx=>by
  obtain⟨j,hj,e⟩:=aV.mp hx;have F7:j<201:=dI.mp hj;cases z:isClosed s x with
  |false=>exact absurd ⟨x-n,by omega,by rw[show n+(x-n)=x by omega];exact z⟩ q
  |true=>
   unfold isClosed at z;rw[dq]at z;rcases z with z|z
   ·have hm:x%7∈s.rest:=by simpa using z
    have:x%7=w:=(by omega);rw[this]at hm;exact absurd hm hr
   ·simpa using z
 simp at h0;omega
theorem D5(s:State):∀(f n k:Nat),k<f->(∀i,i<k->isClosed s (n+i)=true)->isClosed s (n+k)=false->moved s f n=n+k
 |f+1,n,0,_,_,h=>by
  rw[moved,aw (by rw[show n+0=n from rfl]at h;rw[h];simp)];rfl
 |f+1,n,k+1,hk,h1,h=>by
  have e:=h1 0 (by omega);rw[moved,az (by rw[show n+0=n from rfl]at e;exact e),D5 s f (n+1) k (by omega) (λi hi=>by have:=h1 (i+1) (by omega);rw[show n+1+i=n+(i+1) by omega];exact this) (by rw[show n+1+k=n+(k+1) by omega];exact h)];omega
theorem y8(s:State)(n:Nat):∀(m:Nat),(∃k,k<m/\isClosed s (n+k)=false)->∃k,k<m/\(∀i,i<k->isClosed s (n+i)=true)/\isClosed s (n+k)=false
 |0,h=>by obtain⟨k,hk,_⟩:=h;omega
 |m+1,h=>by
  by_cases q:∃k,k<m/\isClosed s (n+k)=false
  ·obtain⟨k,hk,r⟩:=y8 s n m q
   exact⟨k,by omega,r⟩
  ·obtain⟨k,hk,hc⟩:=h
   have:k=m:=by
    apply bI;intro z;exact q ⟨k,by omega,hc⟩
   subst this;refine⟨k,by omega,λi hi=>?_,hc⟩;cases z:isClosed s (n+i)with
   |true=>rfl
   |false=>exact absurd ⟨i,hi,z⟩ q
theorem yN(s:State)(h:s.rest.length<=6)(hc:s.closed.length<=200)(q:Paper):∃k,k<1407/\(∀i,i<k->isClosed s (yearLater q.day+i)=true)/\isClosed s (yearLater q.day+k)=false/\limit s q=yearLater q.day+k:=by
 obtain⟨k,hk,h1,h2⟩:=y8 s (yearLater q.day) 1407 (KA s h hc _);exact⟨k,hk,h1,h2,D5 s 2000 _ k (by omega) h1 h2⟩
def qm(n:Nat):Prop:=∃y m d,Vd y m d/\y<=2199/\dayOf y m d=n
structure Ro(s:State)(p:Paper):Prop where
 n1:1<=p.num
 n2:p.num<=999
 w1:1<=p.who
 w2:p.who<=20
 day:qm p.day
 bx:∀b∈p.boxes,b.length=s.sizes.length
 b1:1<=p.boxes.length
 b2:p.boxes.length<=12
 nd:p.boxes.Nodup
 nm:p.names.Pairwise (· < ·)
 nl:p.names.length<=8
 ne:∀n∈p.names,∃q∈s.papers,q.num=n
 pn:p.parent≠0->p.names=[]
 pe:p.parent≠0->∃q∈s.papers,q.num=p.parent
 out:∀o,p.out=some o->qm o.1
 shown:∀x,p.shown=some x->qm x
structure Wf(s:State):Prop where
 k1:1<=s.sizes.length
 k2:s.sizes.length<=6
 kv:∀k∈s.sizes,1<=k/\k<=8
 rl:s.rest.length<=6
 rv:∀r∈s.rest,r<=6
 cn:s.closed.Nodup
 cs:s.closed.Pairwise (· < ·)
 cl:s.closed.length<=200
 cv:∀c∈s.closed,qm c
 pl:s.papers.length<=24
 ps:s.papers.Pairwise (λa b=>a.num<b.num)
 pw:∀p∈s.papers,Ro s p
 dl:s.deeds.length<=40
 ds:s.deeds.Pairwise m7
 dn:s.deeds.Pairwise (λa b=>a.num≠b.num)
 dw:∀e∈s.deeds,1<=e.num/\e.num<=999/\1<=e.giver/\e.giver<=20/\1<=e.taker/\e.taker<=20/\qm e.day/\∀b∈e.boxes,b.length=s.sizes.length
theorem Dk:Wf start:=by
 refine⟨by decide,by decide,by decide,by decide,by decide,?_,?_,by decide,?_,by decide,?_,?_,by decide,?_,?_,?_⟩
 all_goals simp[start]
theorem vB{y m d:Int}(h:gu y m d):Vd y.toNat m.toNat d.toNat/\y.toNat<=2199:=by
 unfold gu at h;exact⟨⟨by omega,by omega,by omega,by omega,by omega,by omega⟩,by omega⟩
theorem fO{y m d:Int}(h:gu y m d):qm (eB y m d):=⟨_,_,_,(vB h).1,(vB h).2,rfl⟩
theorem jw{s:State}{n:Int}{p:Paper}(h:look s n=some p):p∈s.papers/\(p.num:Int)=n:=by
 unfold look at h;split at h
 ·cases h
 ·unfold Vbptae.paper at h
  have h1:=ku h;have h2:=qo h;simp at h2;exact⟨h1,by omega⟩
theorem iQ{s:State}(W:s.papers.Pairwise (λa b=>a.num<b.num)){p:Paper}(h:p∈s.papers):Vbptae.paper s p.num=some p:=by
 unfold Vbptae.paper;generalize s.papers=l at*
 induction l with
 |nil=>cases h
 |cons q l ih=>
  rw[b0]at W;rw[dM];rcases aB.mp h with e|e
  ·subst e
   simp
  ·have:=W.1 p e
   have z:(q.num==p.num)=false:=by simp;omega
   rw[z];exact ih W.2 e
theorem Nw{s:State}(W:s.papers.Pairwise (λa b=>a.num<b.num)){p:Paper}(h:p∈s.papers){n:Int}(hn:(p.num:Int)=n):look s n=some p:=by
 unfold look;rw[aw (by omega),show n.toNat=p.num by omega];exact iQ W h
theorem IB{s:State}{n:Int}(h:∀p∈s.papers,(p.num:Int)≠n):look s n=none:=by
 cases e:look s n with
 |none=>rfl
 |some p=>exact absurd (jw e).2 (h p (jw e).1)
theorem sv{s:State}{n:Nat}:(Vbptae.paper s n).isNone=true↔∀p∈s.papers,p.num≠n:=by
 unfold Vbptae.paper;simp
theorem Hl{l:List Int}:∀{r:List Nat},r.Pairwise (· < ·)->(l.foldl (λr x=>putNum x.toNat r) r).Pairwise (· < ·)/\(l.foldl (λr x=>putNum x.toNat r) r).length<=r.length+l.length/\∀y,y∈l.foldl (λr x=>putNum x.toNat r) r↔y∈r\/∃x∈l,x.toNat=y:=by
 induction l with
 |nil=>intro r h;simp[h]
 |cons a l ih=>
  intro r h;rw[dh];obtain⟨h1,h2,h3⟩:=ih (gL (x:=a.toNat) h);have h4:=j3 (x:=a.toNat) r;refine⟨h1,by simp only[aq];omega,λy=>?_⟩;rw[h3,jO];simp only[aB,exists_eq_or_imp];constructor
  ·rintro((h|h)|h)
   ·exact .inr (.inl h.symm)
   ·exact .inl h
   ·exact .inr (.inr h)
  ·rintro(h|h|h)
   ·exact .inl (.inr h)
   ·exact .inl (.inl h.symm)
   ·exact .inr h
theorem qh{ks:List Nat}{lo:Nat}{l:List Int}(h:cT ks lo l):∀b∈cw ks l,b.length=ks.length:=by
 intro b hb;unfold cw at hb;obtain⟨c,hc,rfl⟩:=aV.mp hb;rw[ab];exact uE _ l (mm h.1) c hc
theorem rQ{ks:List Nat}{lo:Nat}{l:List Int}(h:cT ks lo l):(cw ks l).Nodup:=by
 unfold cw;have hp:=yX h.1 h.2.2.2.1;have h6:=h.2.2.2.2;rw[bN,cy];rw[bN]at h6;refine h6.imp_of_mem λ{a b}ha hb Gd e=>Gd (toNat_inj a b (λx hx=>?_) (λx hx=>?_) e)
 ·have:=hp a ha x hx;omega
 ·have:=hp b hb x hx;omega
theorem eR(ks:List Nat)(l:List Int):(cw ks l).length=l.length/ks.length:=by
 unfold cw;rw[ab,fG]
theorem Ro.mono{s s':State}{p:Paper}(h:Ro s p)(e:s'.sizes=s.sizes)(k:∀q∈s.papers,∃q'∈s'.papers,q'.num=q.num):Ro s' p:=
 ⟨h.n1,h.n2,h.w1,h.w2,h.day,λb hb=>by rw[e];exact h.bx b hb,h.b1,h.b2,h.nd,h.nm,h.nl,λn hn=>by
  obtain⟨q,hq,hh⟩:=h.ne n hn;obtain⟨q',h1,h2⟩:=k q hq;exact⟨q',h1,by rw[h2,hh]⟩,h.pn,λz=>by
  obtain⟨q,hq,hh⟩:=h.pe z;obtain⟨q',h1,h2⟩:=k q hq;exact⟨q',h1,by rw[h2,hh]⟩,h.out,h.shown⟩
theorem Wf.add{s:State}(W:Wf s){p:Paper}(hl:s.papers.length<24)(hn:∀q∈s.papers,q.num≠p.num)(hp:Ro {s with papers:=putPaper p s.papers} p):Wf {s with papers:=putPaper p s.papers}:=by
 refine⟨W.k1,W.k2,W.kv,W.rl,W.rv,W.cn,W.cs,W.cl,W.cv,?_,oJ W.ps hn,λq hq=>?_,W.dl,W.ds,W.dn,W.dw⟩
 ·show(putPaper p s.papers).length<=24
  rw[f7.length_eq];simp only[aq];omega
 ·rcases aB.mp (f7.mem_iff.mp hq)with e|e
  ·rw[e];exact hp
  ·exact(W.pw q e).mono rfl λr hr=>⟨r,f7.mem_iff.mpr (ao _ hr),rfl⟩
theorem wQ{s:State}{n:Nat}{f:Paper->Paper}{q:Paper}:q∈(changed s n f).papers↔∃p∈s.papers,q=if p.num=n then f p else p:=by
 unfold changed;simp only[aV];constructor
 ·rintro⟨p,h1,h2⟩;exact⟨p,h1,h2.symm⟩
 ·rintro⟨p,h1,h2⟩;exact⟨p,h1,h2.symm⟩
theorem Wf.change{s:State}(W:Wf s){n:Nat}{f:Paper->Paper}(hf:∀p∈s.papers,(f p).num=p.num) (hp:∀p∈s.papers,p.num=n->Ro s (f p)):Wf (changed s n f):=by
 have kk:∀q∈s.papers,∃q'∈(changed s n f).papers,q'.num=q.num:=λq hq=>⟨_,wQ.mpr ⟨q,hq,rfl⟩,by split;exact hf q hq;rfl⟩
 refine⟨W.k1,W.k2,W.kv,W.rl,W.rv,W.cn,W.cs,W.cl,W.cv,?_,?_,λq hq=>?_,W.dl,W.ds,W.dn,W.dw⟩
 ·show(s.papers.map _).length<=24
  rw[ab];exact W.pl
 ·show(s.papers.map _).Pairwise _
  rw[cy];refine W.ps.imp_of_mem λ{a b}ha hb h=>?_
  have e1:(if a.num=n then f a else a).num=a.num:=by split;exact hf a ha;rfl
  have e2:(if b.num=n then f b else b).num=b.num:=by split;exact hf b hb;rfl
  rw[e1,e2];exact h
 ·obtain⟨p,h1,rfl⟩:=wQ.mp hq
  split
  ·exact(hp p h1 (by assumption)).mono rfl kk
  ·exact(W.pw p h1).mono rfl kk
theorem kx{s:State}(W:Wf s)(c:Call):Wf (dU s (act s c)).1:=by
 cases c with
 |field l=>
  rw[vS];split
  ·rename_i h
   refine⟨?_,?_,?_,by simp[start],by simp[start],by simp[start],by simp[start],by simp[start],by simp[start],by simp[start],by simp[start],by simp[start],by simp[start],by simp[start],by simp[start],by simp[start]⟩
   ·simp;omega
   ·simp;omega
   ·intro k hk
    simp only[aV]at hk;obtain⟨x,hx,rfl⟩:=hk;have:=h.2 x hx;omega
  ·exact W
 |rest l=>
  rw[zw];split
  ·rename_i h
   obtain⟨h1,h2,h3⟩:=Hl (l:=l) (r:=[]) .nil;refine⟨W.k1,W.k2,W.kv,?_,?_,W.cn,W.cs,W.cl,W.cv,W.pl,W.ps,λp hp=>(W.pw p hp).mono rfl λq hq=>⟨q,hq,rfl⟩,W.dl,W.ds,W.dn,W.dw⟩
   ·simp at h2;simp;omega
   ·intro r hr
    rcases(h3 r).mp hr with z|⟨x,hx,rfl⟩
    ·cases z
    ·have:=h.2 x hx
     omega
  ·exact W
 |closed y m d=>
  rw[sW];split
  ·split
   ·rename_i h1 h2
    have key:(putNum (eB y m d) s.closed).length<=200:=by
     by_cases hm:eB y m d∈s.closed
     ·rw[pC W.cs hm];exact W.cl
     ·have:=j3 (x:=eB y m d) s.closed
      rcases h2 with h2|h2
      ·omega
      ·exact absurd h2 hm
    refine⟨W.k1,W.k2,W.kv,W.rl,W.rv,?_,gL W.cs,key,λc hc=>?_,W.pl,W.ps,λp hp=>(W.pw p hp).mono rfl λq hq=>⟨q,hq,rfl⟩,W.dl,W.ds,W.dn,W.dw⟩
    ·exact(gL W.cs).imp (λh=>by omega)
    ·rcases jO.mp hc with e|e
     ·rw[e];exact fO h1
     ·exact W.cv c e
   ·exact W
  ·exact W
 |paper n w y m d l=>
  rw[vR];split;split;split;split;split;split
  ·rename_i h1 h2 h3 h4 h5 h6
   refine W.add h6 (sv.mp h5) ⟨by show 1<=n.toNat;omega,by show n.toNat<=999;omega,by show 1<=w.toNat;omega,by show w.toNat<=20;omega,fO h3,qh h4,?_,?_,rQ h4,.nil,bp _,λ_ z=>(by cases z),λz=>absurd rfl z,λz=>absurd rfl z,λ_ z=>(by cases z),λ_ z=>(by cases z)⟩
   ·rw[eR];exact h4.2.1
   ·rw[eR];exact h4.2.2.1
  all_goals exact W
 |part n q y m d l=>
  rw[zx];split;split;split
  ·rename_i h1 h3 h4
   split
   ·exact W
   ·rename_i p hp
    split;split;split
    ·rename_i h5 h6 h7
     obtain⟨hm,_⟩:=jw hp;have wp:=W.pw p hm;refine W.add h7 (sv.mp h5) ⟨by show 1<=n.toNat;omega,by show n.toNat<=999;omega,wp.w1,wp.w2,fO h3,qh h4,?_,?_,rQ h4,.nil,bp _,λ_ z=>(by cases z),λ_=>rfl,λ_=>⟨p,f7.mem_iff.mpr (ao _ hm),rfl⟩,λ_ z=>(by cases z),λ_ z=>(by cases z)⟩
     ·rw[eR];exact h4.2.1
     ·rw[eR];exact h4.2.2.1
    all_goals exact W
  all_goals exact W
 |name n q=>
  rw[zy];split
  ·exact W
  ·rename_i p hp
   split
   ·exact W
   ·rename_i r hr
    split;split;split
    ·rename_i h1 h2 h3
     refine W.change (λ_ _=>rfl) λx hx e=>?_
     have wx:=W.pw x hx;have ex:x=p:=by
      have a:=iQ W.ps hx;have b:=iQ W.ps (jw hp).1
      rw[e,b]at a;exact(bw a).symm
     subst ex;refine⟨wx.n1,wx.n2,wx.w1,wx.w2,wx.day,wx.bx,wx.b1,wx.b2,wx.nd,gL wx.nm,?_,λk hk=>?_,λz=>absurd h1.1 z,wx.pe,wx.out,wx.shown⟩
     ·have:=j3 (x:=r.num) x.names
      show(putNum r.num x.names).length<=8
      omega
     ·rcases jO.mp hk with e|e
      ·exact⟨r,(jw hr).1,e.symm⟩
      ·exact wx.ne k e
    all_goals exact W
 |give n q=>
  rw[zA];split
  ·exact W
  ·rename_i p hp
   split
   ·exact W
   ·split
    ·refine W.change (λ_ _=>rfl) λx hx e=>?_
     have wx:=W.pw x hx;refine⟨wx.n1,wx.n2,wx.w1,wx.w2,wx.day,wx.bx,wx.b1,wx.b2,wx.nd,wx.nm.filter _,bf (bu _ _) wx.nl,λk hk=>wx.ne k (cp.mp hk).1,λz=>?_,wx.pe,wx.out,wx.shown⟩
     show x.names.filter _=[];rw[wx.pn z];rfl
    ·exact W
 |withdraw n y m d x=>
  rw[oq];split;split
  ·rename_i h1 h2
   split
   ·exact W
   ·split;split
    ·refine W.change (λ_ _=>rfl) λp hp e=>?_
     have wx:=W.pw p hp;exact⟨wx.n1,wx.n2,wx.w1,wx.w2,wx.day,wx.bx,wx.b1,wx.b2,wx.nd,wx.nm,wx.nl,wx.ne,wx.pn,wx.pe,λo z=>(by cases z;exact fO h2),wx.shown⟩
    all_goals exact W
  all_goals exact W
 |publish n y m d=>
  rw[qi];split
  ·rename_i h2
   split
   ·exact W
   ·split;split
    ·refine W.change (λ_ _=>rfl) λp hp e=>?_
     have wx:=W.pw p hp;exact⟨wx.n1,wx.n2,wx.w1,wx.w2,wx.day,wx.bx,wx.b1,wx.b2,wx.nd,wx.nm,wx.nl,wx.ne,wx.pn,wx.pe,wx.out,λo z=>by cases z;exact fO h2⟩
    all_goals exact W
  ·exact W
 |hand k q a b y m d l=>
  rw[zz];split;split;split;split;split
  ·rename_i h1 h2 h3 h4 h5
   split
   ·exact W
   ·rename_i p hp
    split;split;split
    ·rename_i h6 h7 h8
     have wp:=W.pw p (jw hp).1
     refine⟨W.k1,W.k2,W.kv,W.rl,W.rv,W.cn,W.cs,W.cl,W.cv,W.pl,W.ps,λp hp=>(W.pw p hp).mono rfl λq hq=>⟨q,hq,rfl⟩,?_,pE W.ds h6,?_,λe he=>?_⟩
     ·show(putDeed _ s.deeds).length<=40
      rw[ik.length_eq];simp only[aq];omega
     ·refine(ik.pairwise_iff λ{x y}h=>fZ h).mpr ?_
      rw[b0];exact⟨λe he=>(h6 e he).symm,W.dn⟩
     ·rcases aB.mp (ik.mem_iff.mp he)with e|e
      ·subst e
       refine⟨by show 1<=k.toNat;omega,by show k.toNat<=999;omega,by show 1<=a.toNat;omega,by show a.toNat<=20;omega,by show 1<=b.toNat;omega,by show b.toNat<=20;omega,fO h4,?_⟩;show∀x∈(if(cw s.sizes l).isEmpty=true then p.boxes else cw s.sizes l),_
       split
       ·exact wp.bx
       ·exact qh h5
      ·exact W.dw _ e
    all_goals exact W
  all_goals exact W
 |day n b=>rw[xN s W.k1];split;split;exact W;split;exact W;exact W;exact W
 |days n=>rw[uQ];split;exact W;exact W
 |why n q b=>rw[xM s W.k1];split;split;exact W;split;exact W;exact W;exact W
 |limit q=>rw[qC];split;exact W;exact W
 |first w b=>rw[qD s W.k1];split;split;exact W;exact W;exact W
 |holder q y m d b=>rw[ou s W.k1];split;split;split;exact W;split;exact W;exact W;exact W;exact W
 |family n=>rw[ow];split;exact W;exact W
 |alike n=>rw[qG];split;exact W;exact W
 |lost n q=>rw[uP];split;exact W;split;exact W;exact W
 |could w y m d b=>rw[qE s W.k1];split;split;split;exact W;exact W;exact W;exact W
 |claim n l=>rw[qF];split;split;exact W;split;exact W;exact W;exact W
 |told n=>rw[uO];split;exact W;exact W
theorem EW{α:Type}{f:α->Bool}{l k:List α}(h:l.Perm k):l.any f=k.any f:=by
 rw[bz,fJ,fJ];constructor
 ·rintro⟨x,h1,h2⟩;exact⟨x,h.mem_iff.mp h1,h2⟩
 ·rintro⟨x,h1,h2⟩;exact⟨x,h.mem_iff.mpr h1,h2⟩
theorem L4{α:Type}{f:α->Bool}{l k:List α}(h:l.Perm k):l.all f=k.all f:=by
 rw[bz,bE,bE];constructor
 ·intro q x hx;exact q x (h.mem_iff.mpr hx)
 ·intro q x hx;exact q x (h.mem_iff.mp hx)
theorem iN{α:Type}{R:α->α->Prop}(asym:∀a b,R a b->R b a->False):∀{l k:List α},l.Pairwise R->k.Pairwise R->(∀x,x∈l↔x∈k)->l=k
 | [],[],_,_,_=>rfl
 | [],b::k,_,_,h=>absurd ((h b).mpr ax) (by simp)
 |a::l,[],_,_,h=>absurd ((h a).mp ax) (by simp)
 |a::l,b::k,hl,hk,h=>by
  rw[b0]at hl hk;have e:a=b:=by
   rcases aB.mp ((h a).mp ax)with e|e
   ·exact e
   ·rcases aB.mp ((h b).mpr ax)with e'|e'
    ·exact e'.symm
    ·exact(asym a b (hl.1 b e') (hk.1 a e)).elim
  subst e;have irr:∀x,¬R x x:=λx r=>asym x x r r
  congr 1;refine iN asym hl.2 hk.2 λx=>?_
  constructor
  ·intro hx
   rcases aB.mp ((h x).mp (ao _ hx))with e|e
   ·subst e;exact(irr _ (hl.1 _ hx)).elim
   ·exact e
  ·intro hx
   rcases aB.mp ((h x).mpr (ao _ hx))with e|e
   ·subst e;exact(irr _ (hk.1 _ hx)).elim
   ·exact e
theorem Gp(a b:Deed)(h1:m7 a b)(h2:m7 b a):False:=by
 unfold m7 at h1 h2;omega
def CW(L:List Paper):Prop:=∀(i:Nat)(p:Paper),L[i]?=some p->p.parent≠0->∃(j:Nat)(q:Paper),j<i/\L[j]?=some q/\q.num=p.parent
theorem Ie{s:State}{L:List Paper}(W:s.papers.Pairwise (λa b=>a.num<b.num))(hp:∀p,p∈L->p∈s.papers)(hP:CW L):∀(i:Nat)(p:Paper)(f g:Nat),L[i]?=some p->i<=f->i<=g->root s f p=root s g p:=by
 intro i
 induction i using Nat.strongRecOn with
 |_ i ih=>
  intro p f g hi hf hg
  by_cases e:p.parent=0
  ·have r0:∀k,root s k p=p:=λk=>by
    cases k with
    |zero=>rfl
    |succ k=>rw[root,az e]
   rw[r0,r0]
  ·obtain⟨j,q,hj,hq,hn⟩:=hP i p hi e
   have Wj:Vbptae.paper s p.parent=some q:=by
    rw[<-hn];exact iQ W (hp q (aY hq))
   obtain⟨f',rfl⟩:∃f',f=f'+1:=⟨f-1,by omega⟩;obtain⟨g',rfl⟩:∃g',g=g'+1:=⟨g-1,by omega⟩;rw[root,aw e,root,aw e,Wj];exact ih j hj q f' g' hq (by omega) (by omega)
theorem Ic{s:State}{L:List Paper}(W:s.papers.Pairwise (λa b=>a.num<b.num))(hp:∀p,p∈L->p∈s.papers)(hP:CW L)(hl:L.length<=24){i j:Nat}{p q:Paper}(hi:L[i]?=some p)(hj:j<i)(hq:L[j]?=some q)(hn:q.num=p.parent)(h0:p.parent≠0):
  root s PAPERS p=root s PAPERS q:=by
 have il:i<L.length:=(aN.mp hi).1
 have Wj:Vbptae.paper s p.parent=some q:=by
  rw[<-hn];exact iQ W (hp q (aY hq))
 show root s 24 p=root s 24 q;rw[show(24:Nat)=23+1 from rfl,root,aw h0,Wj];exact Ie W hp hP j q 23 24 hq (by omega) (by omega)
theorem pB{s:State}{p:Paper}(h0:p.parent=0):root s PAPERS p=p:=by
 show root s 24 p=p;rw[show(24:Nat)=23+1 from rfl,root,az h0]
def fQ(s:State)(p:Paper)(b:Box)(x:Nat×Nat)(q:Paper):Nat×Nat:=if why s p q b=0/\q.day<x.1 then(q.day,q.num)else x
theorem oj{α β:Type}(f:β->α->β)(P:α->Bool)(h:∀x a,P a=false->f x a=x):∀(l:List α)(x:β),l.foldl f x=(l.filter P).foldl f x
 | [],_=>rfl
 |a::l,x=>by
  rw[dh,dQ];cases e:P a with
  |false=>
   rw[h x a e,oj f P h l];simp
  |true=>
   simp only[dD,dh];exact oj f P h l _
def gk(s:State)(ns:List Nat):List Paper:=ns.filterMap λn=>Vbptae.paper s n
theorem BR{s:State}(W:s.papers.Pairwise (λa b=>a.num<b.num)){ns:List Nat}{q:Paper}:q∈gk s ns↔q∈s.papers/\q.num∈ns:=by
 unfold gk;rw[lO];constructor
 ·rintro⟨n,hn,h⟩
  unfold Vbptae.paper at h;have h1:=ku h;have h2:=qo h;simp at h2;exact⟨h1,by rw[h2];exact hn⟩
 ·rintro⟨h1,h2⟩
  exact⟨q.num,h2,iQ W h1⟩
theorem kE{s:State}:∀{ns:List Nat},ns.Pairwise (· < ·)->(gk s ns).Pairwise (λa b=>a.num<b.num)
 | [],_=>.nil
 |n::ns,h=>by
  rw[b0]at h;unfold gk;rw[iG];cases e:Vbptae.paper s n with
  |none=>exact kE h.2
  |some p=>
   simp only[];rw[b0];refine⟨λq hq=>?_,kE h.2⟩;obtain⟨m,hm,hq⟩:=lO.mp hq;unfold Vbptae.paper at e hq;have h1:=qo e;have h2:=qo hq;simp at h1 h2;rw[h1,h2];exact h.1 m hm
theorem CD{s:State}(W:s.papers.Pairwise (λa b=>a.num<b.num)){ns:List Nat}(hn:ns.Pairwise (· < ·)):s.papers.filter (λq=>ns.contains q.num)=gk s ns:=by
 refine iN (R:=λa b:Paper=>a.num<b.num) (λa b h1 h2=>by omega) (W.filter _) (kE hn) λq=>?_
 rw[BR W,cp];simp
theorem zd{s:State}(W:s.papers.Pairwise (λa b=>a.num<b.num)){p:Paper}(hn:p.names.Pairwise (· < ·))(b:Box):earliest s p b=(gk s p.names).foldl (fQ s p b) (p.day,p.num):=by
 rw[<-CD W hn];exact oj (fQ s p b) (λq=>p.names.contains q.num) (λx a h=>by
  unfold fQ;rw[aw];rintro⟨h1,_⟩;unfold why at h1;rw[az h]at h1;cases h1) s.papers (p.day,p.num)
def Gg(s:State)(p q:Paper)(b:Box):Bool:=q.boxes.contains b&&(!decide (limit s q<p.day)&&(isFirst s q b&&decide (holder s q b p.day=p.who)))
theorem HF{s:State}{p q:Paper}{b:Box}(h:q.num∈p.names):why s p q b=0↔Gg s p q b=true:=by
 unfold why Gg;rw[aw (by simp[h])]
 by_cases h2:q.boxes.contains b=false
 ·rw[az h2,h2];simp
 rw[aw h2];have JJ:q.boxes.contains b=true:=by simpa using h2
 rw[JJ]
 by_cases h3:limit s q<p.day
 ·rw[az h3];simp[h3]
 rw[aw h3]
 by_cases h4:isFirst s q b=false
 ·rw[az h4,h4];simp
 rw[aw h4];have h4':isFirst s q b=true:=by simpa using h4
 rw[h4']
 by_cases h5:holder s q b p.day=p.who
 ·rw[aw (by simpa using h5)]
  simp[h3,h5]
 ·rw[az h5]
  simp[h3,h5]
theorem gK(n:Nat):(shown n).length=3:=rfl
theorem hX{α:Type}{f:α->List Int}{k:Nat}:∀{l:List α},(∀a∈l,(f a).length<=k)->(l.flatMap f).length<=l.length*k
 | [],_=>by simp
 |a::l,h=>by
  rw[List.flatMap_cons,aA,aq,gX];have h1:=h a ax;have h2:=hX (l:=l) λb hb=>h b (ao _ hb)
  omega
theorem wM{k:Nat}:∀{l:List Box},(∀b∈l,b.length=k)->l.flatten.length=l.length*k
 | [],_=>by simp
 |a::l,h=>by
  rw[JC,aA,aq,gX,h a ax,wM λb hb=>h b (ao _ hb)];omega
theorem sf{s:State}:∀(f:Nat)(l:List Nat),(spread s (f+1) l).length<=s.papers.length
 |0,l=>by
  rw[spread,spread,ab];exact bu _ _
 |f+1,l=>by
  rw[spread];exact sf f _
theorem Lu{l:List Nat}:∀{r:List Nat},(l.foldl (λr x=>putNum x r) r).length<=r.length+l.length:=by
 induction l with
 |nil=>intro r;simp
 |cons a l ih=>
  intro r;rw[dh];have h1:=ih (r:=putNum a r);have h2:=j3 (x:=a) r;simp only[aq];omega
theorem HD{s:State}(W:Wf s)(c:Call):(dU s (act s c)).2.length<=100:=by
 cases c with
 |field l=>rw[vS];split<;>simp
 |rest l=>rw[zw];split<;>simp
 |closed y m d=>rw[sW];(repeat' split)<;>simp
 |paper n w y m d l=>rw[vR];(repeat' split)<;>simp
 |part n q y m d l=>rw[zx];(repeat' split)<;>simp
 |name n q=>rw[zy];(repeat' split)<;>simp
 |give n q=>rw[zA];(repeat' split)<;>simp
 |withdraw n y m d x=>rw[oq];(repeat' split)<;>simp
 |publish n y m d=>rw[qi];(repeat' split)<;>simp
 |hand k q a b y m d l=>rw[zz];(repeat' split)<;>simp
 |day n b=>rw[xN s W.k1];(repeat' split)<;>simp[gK]
 |days n=>
  rw[uQ];split
  ·simp
  ·rename_i p hp
   have h1:=(W.pw p (jw hp).1).b2
   have h2:=hX (l:=p.boxes) (f:=λb=>shown (dayIn s p b).1++ [((dayIn s p b).2:Int)]) (k:=4) λb _=>by simp[gK]
   simp only[aq];omega
 |why n q b=>rw[xM s W.k1];(repeat' split)<;>simp
 |limit q=>rw[qC];split<;>simp[gK]
 |first w b=>
  rw[qD s W.k1];split
  ·split
   ·have h1:=W.pl
    have h2:=bu (λp:Paper=>p.who==w.toNat&&(p.boxes.contains (b.map Int.toNat)&&Vbptae.isFirst s p (b.map Int.toNat))) s.papers;simp only[Vbptae.ints,aq,ab];omega
   ·simp
  ·simp
 |holder q y m d b=>rw[ou s W.k1];(repeat' split)<;>simp
 |family n=>
  rw[ow];split
  ·simp
  ·rename_i p hp
   have h1:=W.pl;have h2:=sf (s:=s) 23 [p.num];simp only[Vbptae.ints,aq,ab,family];show(spread s (23+1) [p.num]).length+1<=100
   omega
 |alike n=>
  rw[qG];split
  ·simp
  ·rename_i p hp
   have h1:=W.pl;have h2:=bu (λq:Paper=>sources s q==sources s p) s.papers;simp only[Vbptae.ints,aq,ab,alikeFamily];omega
 |lost n q=>
  rw[uP];split
  ·simp
  ·rename_i p hp
   split
   ·simp
   ·rename_i r hr
    have h1:=(W.pw p (jw hp).1).b2
    have h2:=hX (l:=Vbptae.lost s p r.num) (f:=λx=>(x.1:Int)::shown x.2) (k:=4) λb _=>by simp[gK]
    have h3:(Vbptae.lost s p r.num).length<=p.boxes.length:=by
     unfold Vbptae.lost;refine bf (bu _ _) ?_;simp
    simp only[aq];omega
 |could w y m d b=>rw[qE s W.k1];(repeat' split)<;>simp[gK]
 |claim n l=>
  rw[qF];split
  ·rename_i hg
   split
   ·simp
   ·rename_i p hp
    split
    ·have h1:=hg.2.2.1
     rw[<-eR]at h1;have h2:=Lu (l:=(cw s.sizes l).map λb=>(dayIn s p b).1) (r:=[])
     have h3:=hX (l:=((cw s.sizes l).map λb=>(dayIn s p b).1).foldl (λl t=>putNum t l) []) (f:=λt=>shown t++ [((((cw s.sizes l).filter λb=>(dayIn s p b).1==t).length:Nat):Int)]) (k:=4) λb _=>by simp[gK]
     rw[ab]at h2;simp only[bR]at h2;simp only[aq];omega
    ·simp
  ·simp
 |told n=>
  rw[uO];split
  ·simp
  ·rename_i p hp
   have wp:=W.pw p (jw hp).1
   have h1:=wM wp.bx;have h2:=wp.b2;have h3:=W.k2;have h4:=wp.nl;have h5:p.boxes.length*s.sizes.length<=12*6:=Nat.mul_le_mul h2 h3;cases p.out with
   |none=>
    cases p.shown with
    |none=>simp only[aA,aq,bR,Vbptae.ints,ab,gK];omega
    |some x=>simp only[aA,aq,bR,Vbptae.ints,ab,gK];omega
   |some o=>
    cases p.shown with
    |none=>simp only[aA,aq,bR,Vbptae.ints,ab,gK];omega
    |some x=>simp only[aA,aq,bR,Vbptae.ints,ab,gK];omega
def dS:List (Nat×Nat):=[(0,1),(0,1),(3,0),(5,1),(5,1),(2,0),(2,0),(5,0),(4,0),(7,1),(1,1),(1,0),(2,1),(1,0),(1,1),(4,1),(1,0),(1,0),(2,0),(4,1),(1,1),(1,0)]
theorem Kc{p:Int}{nk:Nat×Nat}(h:PyVbptae.shape p=some nk):∃j:Nat,p=(j:Int)/\j<22/\dS[j]?=some nk:=by
 by_cases hp:0<=p/\p<=21
 ·obtain⟨j,rfl⟩:∃j:Nat,p=(j:Int):=⟨p.toNat,by omega⟩
  have hj:j<22:=by omega
  match j,hj with
  |0,_=>exact⟨0,rfl,by omega,h⟩
  |1,_=>exact⟨1,rfl,by omega,h⟩
  |2,_=>exact⟨2,rfl,by omega,h⟩
  |3,_=>exact⟨3,rfl,by omega,h⟩
  |4,_=>exact⟨4,rfl,by omega,h⟩
  |5,_=>exact⟨5,rfl,by omega,h⟩
  |6,_=>exact⟨6,rfl,by omega,h⟩
  |7,_=>exact⟨7,rfl,by omega,h⟩
  |8,_=>exact⟨8,rfl,by omega,h⟩
  |9,_=>exact⟨9,rfl,by omega,h⟩
  |10,_=>exact⟨10,rfl,by omega,h⟩
  |11,_=>exact⟨11,rfl,by omega,h⟩
  |12,_=>exact⟨12,rfl,by omega,h⟩
  |13,_=>exact⟨13,rfl,by omega,h⟩
  |14,_=>exact⟨14,rfl,by omega,h⟩
  |15,_=>exact⟨15,rfl,by omega,h⟩
  |16,_=>exact⟨16,rfl,by omega,h⟩
  |17,_=>exact⟨17,rfl,by omega,h⟩
  |18,_=>exact⟨18,rfl,by omega,h⟩
  |19,_=>exact⟨19,rfl,by omega,h⟩
  |20,_=>exact⟨20,rfl,by omega,h⟩
  |21,_=>exact⟨21,rfl,by omega,h⟩
 ·unfold PyVbptae.shape at h
  repeat rw[aw (by omega)]at h
  cases h
theorem NP{j:Nat}{nk:Nat×Nat}(h:dS[j]?=some nk):nk.2=0\/nk.2=1:=by
 have hm:=aY h;have:∀x∈dS,x.2=0\/x.2=1:=by decide
 exact this nk hm
def sC(p:Nat)(x l:List Int):Call:=match p,x with
 |0,[]=>.field l
 |1,[]=>.rest l
 |2,[y,m,d]=>.closed y m d
 |3,[n,w,y,m,d]=>.paper n w y m d l
 |4,[n,q,y,m,d]=>.part n q y m d l
 |5,[n,q]=>.name n q
 |6,[n,q]=>.give n q
 |7,[n,y,m,d,z]=>.withdraw n y m d z
 |8,[n,y,m,d]=>.publish n y m d
 |9,[k,q,a,b,y,m,d]=>.hand k q a b y m d l
 |10,[n]=>.day n l
 |11,[n]=>.days n
 |12,[n,q]=>.why n q l
 |13,[q]=>.limit q
 |14,[w]=>.first w l
 |15,[q,y,m,d]=>.holder q y m d l
 |16,[n]=>.family n
 |17,[n]=>.alike n
 |18,[n,q]=>.lost n q
 |19,[w,y,m,d]=>.could w y m d l
 |20,[n]=>.claim n l
 |21,[n]=>.told n
 |_,_=>.told 0
def rowsOf(j:Nat)(x l:List Int)(k:Nat):List (List Int):=((j:Int)::x)::(if k=1 then [l]else [])
theorem len0{x:List Int}(h:x.length=0):x=[]:=iL.mp h
theorem nZ{x:List Int}(h:x.length=1):∃a,x=[a]:=by match x,h with| [a],_=>exact⟨a,rfl⟩
theorem Cq{x:List Int}(h:x.length=2):∃a b,x=[a,b]:=by match x,h with| [a,b],_=>exact⟨a,b,rfl⟩
theorem SR{x:List Int}(h:x.length=3):∃a b c,x=[a,b,c]:=by match x,h with| [a,b,c],_=>exact⟨a,b,c,rfl⟩
theorem Ef{x:List Int}(h:x.length=4):∃a b c d,x=[a,b,c,d]:=by match x,h with| [a,b,c,d],_=>exact⟨a,b,c,d,rfl⟩
theorem Ee{x:List Int}(h:x.length=5):∃a b c d e,x=[a,b,c,d,e]:=by match x,h with| [a,b,c,d,e],_=>exact⟨a,b,c,d,e,rfl⟩
theorem Qu{x:List Int}(h:x.length=7):∃a b c d e f g,x=[a,b,c,d,e,f,g]:=by match x,h with| [a,b,c,d,e,f,g],_=>exact⟨a,b,c,d,e,f,g,rfl⟩
theorem lx{m n k l:Nat}(e1:dS[m]?=some (n,k))(e2:(dS[m]?).map (·.1)=some l):n=l:=by rw[e1]at e2;exact bw e2
theorem Je{j:Nat}{x l:List Int}{k:Nat}(h:dS[j]?=some (x.length,k)):decode (PyVbptae.whole (rowsOf j x l k))=some (sC j x l):=by
 have hj:j<22:=(aN.mp h).1
 match j,hj with
 |0,_=>(obtain rfl:=len0 (lx h rfl);cases h;rfl)
 |1,_=>(obtain rfl:=len0 (lx h rfl);cases h;rfl)
 |2,_=>(obtain⟨_,_,_,rfl⟩:=SR (lx h rfl);cases h;rfl)
 |3,_=>(obtain⟨_,_,_,_,_,rfl⟩:=Ee (lx h rfl);cases h;rfl)
 |4,_=>(obtain⟨_,_,_,_,_,rfl⟩:=Ee (lx h rfl);cases h;rfl)
 |5,_=>(obtain⟨_,_,rfl⟩:=Cq (lx h rfl);cases h;rfl)
 |6,_=>(obtain⟨_,_,rfl⟩:=Cq (lx h rfl);cases h;rfl)
 |7,_=>(obtain⟨_,_,_,_,_,rfl⟩:=Ee (lx h rfl);cases h;rfl)
 |8,_=>(obtain⟨_,_,_,_,rfl⟩:=Ef (lx h rfl);cases h;rfl)
 |9,_=>(obtain⟨_,_,_,_,_,_,_,rfl⟩:=Qu (lx h rfl);cases h;rfl)
 |10,_=>(obtain⟨_,rfl⟩:=nZ (lx h rfl);cases h;rfl)
 |11,_=>(obtain⟨_,rfl⟩:=nZ (lx h rfl);cases h;rfl)
 |12,_=>(obtain⟨_,_,rfl⟩:=Cq (lx h rfl);cases h;rfl)
 |13,_=>(obtain⟨_,rfl⟩:=nZ (lx h rfl);cases h;rfl)
 |14,_=>(obtain⟨_,rfl⟩:=nZ (lx h rfl);cases h;rfl)
 |15,_=>(obtain⟨_,_,_,_,rfl⟩:=Ef (lx h rfl);cases h;rfl)
 |16,_=>(obtain⟨_,rfl⟩:=nZ (lx h rfl);cases h;rfl)
 |17,_=>(obtain⟨_,rfl⟩:=nZ (lx h rfl);cases h;rfl)
 |18,_=>(obtain⟨_,_,rfl⟩:=Cq (lx h rfl);cases h;rfl)
 |19,_=>(obtain⟨_,_,_,_,rfl⟩:=Ef (lx h rfl);cases h;rfl)
 |20,_=>(obtain⟨_,rfl⟩:=nZ (lx h rfl);cases h;rfl)
 |21,_=>(obtain⟨_,rfl⟩:=nZ (lx h rfl);cases h;rfl)
structure Xs(l:List Int)(j:Nat)(x row t:List Int)(n k:Nat):Prop where
 Ls:dS[j]?=some (n,k)
 xl:x.length=n
 eq:l=(j:Int)::x++((if k=1 then(row.length:Int)::row else [])++t)
 XC:k=0\/k=1
 nil:k=0->row=[]
theorem Jl{l t:List Int}{c:List (List Int)}(h:PyFlat.call PyVbptae.shape l=some (c,t)):∃j x row n k,Xs l j x row t n k/\c=rowsOf j x row k:=by
 cases l with
 |nil=>cases h
 |cons p r=>
  cases hs:PyVbptae.shape p with
  |none=>simp only[PyFlat.call,hs]at h;cases h
  |some nk=>
   obtain⟨n,k⟩:=nk;obtain⟨j,rfl,hj,hf⟩:=Kc hs;simp only[PyFlat.call,hs]at h
   by_cases hn:r.length<n
   ·rw[az hn]at h;cases h
   ·rw[aw hn]at h
    rcases NP hf with hk|hk
    ·have hk:k=0:=hk
     subst hk;simp only[PyFlat.rows]at h;injection h with h
     injection h with h1 h2
     subst h1 h2;exact⟨j,r.take n,[],n,0,⟨hf,by rw[bW];omega,by simp,.inl rfl,λ_=>rfl⟩,rfl⟩
    ·have hk:k=1:=hk
     subst hk;simp only[PyFlat.rows]at h;cases hd:r.drop n with
     |nil=>rw[hd]at h;simp[PyFlat.row]at h
     |cons m r2=>
      rw[hd]at h;simp only[PyFlat.row]at h
      by_cases hm:0<=m/\m.toNat<=r2.length
      ·rw[az hm]at h
       simp only[]at h;injection h with h
       injection h with h1 h2
       subst h1 h2;refine⟨j,r.take n,r2.take m.toNat,n,1,⟨hf,by rw[bW];omega,?_,.inr rfl,λz=>by cases z⟩,rfl⟩;have e1:((r2.take m.toNat).length:Int)=m:=by rw[bW];omega
       rw[az rfl,e1];simp only[List.cons_append,jD];rw[<-hd,jD]
      ·rw[aw hm]at h;cases h
theorem Gr{f:Nat}{l:List Int}{cs:List (List (List Int))}(h:PyFlat.calls PyVbptae.shape f l=some cs):
  (l=[]/\cs=[])\/∃f' j x row t n k LP,Xs l j x row t n k/\cs=rowsOf j x row k::LP/\PyFlat.calls PyVbptae.shape f' t=some LP:=by
 cases l with
 |nil=>simp only[PyFlat.calls]at h;injection h with h;exact .inl ⟨rfl,h.symm⟩
 |cons p r=>
  right;cases f with
  |zero=>simp[PyFlat.calls]at h
  |succ f=>
   simp only[PyFlat.calls]at h;cases hc:PyFlat.call PyVbptae.shape (p::r)with
   |none=>rw[hc]at h;cases h
   |some ct=>
    obtain⟨c,t⟩:=ct;rw[hc]at h;simp only[]at h;cases hr:PyFlat.calls PyVbptae.shape f t with
    |none=>rw[hr]at h;cases h
    |some LP=>
     rw[hr]at h;injection h with h
     obtain⟨j,x,row,n,k,h1,h2⟩:=Jl hc;exact⟨f,j,x,row,t,n,k,LP,h1,by rw[<-h,h2],hr⟩
theorem Js{j:Nat}{x row:List Int}{n k:Nat}(hf:dS[j]?=some (n,k))(hx:x.length=n)(h:VbptaeNeutral.asked1 (PyVbptae.whole (rowsOf j x row k))=true)(hk:k=1):row.length<=80:=by
 have hj:j<22:=(aN.mp hf).1
 subst hk hx;have key:∀{b:Bool},(b&&VbptaeNeutral.row row)=true->row.length<=80:=λ{b}z=>by
  rw[a6]at z;unfold VbptaeNeutral.row at z;simp at z;exact z.2.1
 have SW:VbptaeNeutral.row row=true->row.length<=80:=λz=>by
  unfold VbptaeNeutral.row at z;simp at z;exact z.1
 match j,hj with
 |0,_=>(obtain rfl:=len0 (lx hf rfl);exact SW h)
 |1,_=>(obtain rfl:=len0 (lx hf rfl);exact SW h)
 |2,_=>(simp[dS]at hf)
 |3,_=>(obtain⟨_,_,_,_,_,rfl⟩:=Ee (lx hf rfl);exact key h)
 |4,_=>(obtain⟨_,_,_,_,_,rfl⟩:=Ee (lx hf rfl);exact key h)
 |5,_=>(simp[dS]at hf)
 |6,_=>(simp[dS]at hf)
 |7,_=>(simp[dS]at hf)
 |8,_=>(simp[dS]at hf)
 |9,_=>(obtain⟨_,_,_,_,_,_,_,rfl⟩:=Qu (lx hf rfl);exact key h)
 |10,_=>(obtain⟨_,rfl⟩:=nZ (lx hf rfl);exact key h)
 |11,_=>(simp[dS]at hf)
 |12,_=>(obtain⟨_,_,rfl⟩:=Cq (lx hf rfl);exact key h)
 |13,_=>(simp[dS]at hf)
 |14,_=>(obtain⟨_,rfl⟩:=nZ (lx hf rfl);exact key h)
 |15,_=>(obtain⟨_,_,_,_,rfl⟩:=Ef (lx hf rfl);exact key h)
 |16,_=>(simp[dS]at hf)
 |17,_=>(simp[dS]at hf)
 |18,_=>(simp[dS]at hf)
 |19,_=>(obtain⟨_,_,_,_,rfl⟩:=Ef (lx hf rfl);exact key h)
 |20,_=>(obtain⟨_,rfl⟩:=nZ (lx hf rfl);exact key h)
 |21,_=>(simp[dS]at hf)
structure f9 where
 j:Nat
 x:List Int
 row:List Int
structure f9.Ok(c:f9):Prop where
 Ls:∃k,dS[c.j]?=some (c.x.length,k)/\(k=0->c.row=[])
 len:c.row.length<=80
def f9.call(c:f9):Call:=sC c.j c.x c.row
inductive oz:List Int->List f9->Prop
 |nil:oz [] []
 |cons {l t:List Int} {c:f9} {cs:List f9} {n k:Nat}:Xs l c.j c.x c.row t n k->c.Ok->oz t cs->oz l (c::cs)
theorem DJ:∀(cs:List (List (List Int))){f:Nat}{l:List Int},PyFlat.calls PyVbptae.shape f l=some cs->(∀c∈cs,VbptaeNeutral.asked1 (PyVbptae.whole c)=true)->
  ∃ps:List f9,oz l ps/\ps.length=cs.length/\cs.map (λc=>decode (PyVbptae.whole c))=ps.map λp=>some p.call
 |cs,f,l,h,ha=>by
  rcases Gr h with⟨rfl,rfl⟩|⟨f',j,x,row,t,n,k,LP,hr,rfl,ht⟩
  ·exact⟨[],.nil,rfl,rfl⟩
  ·obtain⟨ps,h1,h2,h3⟩:=DJ LP ht λc hc=>ha c (ao _ hc)
   have h0:=ha _ ax;have dy:f9.Ok ⟨j,x,row⟩:=by
    refine⟨⟨k,by rw[hr.Ls,hr.xl],hr.nil⟩,?_⟩;rcases hr.XC with e|e
    ·show row.length<=80
     rw[hr.nil e];exact bp _
    ·exact Js hr.Ls hr.xl h0 e
   refine⟨⟨j,x,row⟩::ps,.cons hr dy h1,by simp[h2],?_⟩;rw[aT,aT,h3,Je (by rw[hr.Ls,hr.xl])];rfl
def after(s:State):List f9->State
 | []=>s
 |c::cs=>after (dU s (act s c.call)).1 cs
def vb(s:State):List f9->List Int
 | []=>[]
 |c::cs=>(((dU s (act s c.call)).2.length:Int)::(dU s (act s c.call)).2)++vb (dU s (act s c.call)).1 cs
theorem uN(s:State):∀(a b:List f9),after s (a++b)=after (after s a) b
 | [],_=>rfl
 |c::a,b=>uN _ a b
theorem wg(s:State):∀(a b:List f9),vb s (a++b)=vb s a++vb (after s a) b
 | [],_=>rfl
 |c::a,b=>by
  show _++vb _ (a++b)=(_++vb _ a)++_;rw[wg _ a b,JD];rfl
theorem JQ:∀(cs:List f9){s:State},Wf s->Wf (after s cs)
 | [],_,W=>W
 |c::cs,_,W=>JQ cs (kx W c.call)
theorem DD:∀(cs:List f9){s:State},Wf s->(vb s cs).length<=cs.length*101
 | [],_,_=>by simp[vb]
 |c::cs,s,W=>by
  have h1:=HD W c.call;have h2:=DD cs (kx W c.call);unfold vb;rw[aA,aq,aq,gX];omega
theorem AM:∀(cs:List (List (List Int)))(ps:List f9)(s:State),cs.map (λc=>decode (PyVbptae.whole c))=ps.map (λp=>some p.call)->
  PyFlat.told (PyFlat.played VbptaeNeutral.step s (cs.map PyVbptae.whole))=vb s ps
 | [],[],_,_=>rfl
 | [],_::_,_,h=>by simp at h
 |_::_,[],_,h=>by simp at h
 |c::cs,p::ps,s,h=>by
  rw[aT,aT,List.cons.injEq]at h;have e:VbptaeNeutral.step s (PyVbptae.whole c)=dU s (act s p.call):=step_eq s h.1;rw[aT,PyFlat.played];show((VbptaeNeutral.step s (PyVbptae.whole c)).2.length:Int)::(VbptaeNeutral.step s (PyVbptae.whole c)).2++PyFlat.told _=_
  rw[AM cs ps _ h.2,e];rfl
theorem XY{l:List Int}(h:PyVbptae.answers_asked l=true):∃ps:List f9,oz l ps/\ps.length<=400/\PyVbptae.answers l=vb start ps:=by
 unfold PyVbptae.answers_asked at h;cases hc:PyVbptae.calls l with
 |none=>rw[hc]at h;cases h
 |some cs=>
  rw[hc]at h;simp only[a6]at h;unfold PyVbptae.calls at hc;cases hf:PyFlat.calls PyVbptae.shape l.length l with
  |none=>rw[hf]at hc;cases hc
  |some T3=>
   rw[hf]at hc;injection hc with hc
   have h2:=h.2;unfold VbptaeNeutral.asked at h2;simp only[a6,cx]at h2;have RL:∀c∈T3,VbptaeNeutral.asked1 (PyVbptae.whole c)=true:=λc hc0=>bE.mp h2.2.2 _ (by rw[<-hc];exact ff hc0)
   obtain⟨ps,h3,h4,h5⟩:=DJ T3 hf RL;refine⟨ps,h3,?_,?_⟩
   ·have:cs.length=T3.length:=by rw[<-hc,ab]
    omega
   ·unfold PyVbptae.answers PyVbptae.calls
    rw[hf];exact AM T3 ps start h5
def jj(s:State)(w:Nat)(b:Box)(t:Nat)(ns:List Nat):Paper:={num:=0,who:=w,day:=t,boxes:=[b],parent:=0,names:=ns,out:=none,shown:=none}
theorem zj{s:State}{w:Nat}{b:Box}{t:Nat}{ns:List Nat}(hn:∀q∈s.papers,q.num∈ns↔q.day<t):∀(l:List Paper),(∀q∈l,q∈s.papers)->∀x:Nat×Nat,x.1<=t->
  l.foldl (λ(x:Nat×Nat)q=>if q.boxes.contains b=true/\q.day<x.1/\t<=limit s q/\isFirst s q b=true/\holder s q b t=w then(q.day,q.num)else x) x=l.foldl (fQ s (jj s w b t ns) b) x
 | [],_,x,_=>rfl
 |q::l,hl,x,hx=>by
  rw[dh,dh];have hq:=hl q ax;have e:(if q.boxes.contains b=true/\q.day<x.1/\t<=limit s q/\isFirst s q b=true/\holder s q b t=w then(q.day,q.num)else x)=fQ s (jj s w b t ns) b x q:=by
   unfold fQ
   by_cases hd:q.day<x.1
   ·have hm:q.num∈(jj s w b t ns).names:=(hn q hq).mpr (by omega)
    have g:=HF (s:=s) (p:=jj s w b t ns) (q:=q) (b:=b) hm;unfold Gg at g;have e1:(jj s w b t ns).day=t:=rfl
    have e2:(jj s w b t ns).who=w:=rfl
    rw[e1,e2]at g;simp only[a6,f6,lQ,cx,Nat.not_lt]at g
    by_cases hc:why s (jj s w b t ns) q b=0
    ·obtain⟨g1,g2,g3,g4⟩:=g.mp hc
     rw[az ⟨g1,hd,g2,g3,g4⟩,az ⟨hc,hd⟩]
    ·rw[aw (λz=>hc (g.mpr ⟨z.1,z.2.2.1,z.2.2.2.1,z.2.2.2.2⟩)),aw (λz=>hc z.1)]
   ·rw[aw (λz=>hd z.2.1),aw (λz=>hd z.2)]
  rw[e];refine zj hn l (λq h=>hl q (ao _ h)) _ ?_;unfold fQ;split
  ·rename_i z;exact gZ (bA z.2 hx)
  ·exact hx
theorem zk{s:State}{w:Nat}{b:Box}{t:Nat}{ns:List Nat}(hn:∀q∈s.papers,q.num∈ns↔q.day<t):could s w b t=earliest s (jj s w b t ns) b:=
 zj hn s.papers (λ_ h=>h) (t,0) (ay _)
def dropName(q:Nat)(p:Paper):Paper:={p with names:=p.names.filter λx=>x != q}
def qr(n q:Nat)(p:Paper):Paper:=if p.num=n then dropName q p else p
theorem jh(s:State)(n q:Nat):(without s n q).papers=s.papers.map (qr n q):=rfl
theorem tF(n q:Nat)(p:Paper):(qr n q p).num=p.num:=by unfold qr dropName;split<;>rfl
theorem xr(n q:Nat)(p:Paper):(qr n q p).who=p.who:=by unfold qr dropName;split<;>rfl
theorem nB(n q:Nat)(p:Paper):(qr n q p).day=p.day:=by unfold qr dropName;split<;>rfl
theorem uX(n q:Nat)(p:Paper):(qr n q p).boxes=p.boxes:=by unfold qr dropName;split<;>rfl
theorem Fq(n q:Nat)(p:Paper):(qr n q p).parent=p.parent:=by unfold qr dropName;split<;>rfl
theorem Mt(n q:Nat)(p:Paper):(qr n q p).out=p.out:=by unfold qr dropName;split<;>rfl
theorem HG(n q:Nat)(p:Paper):(qr n q p).shown=p.shown:=by unfold qr dropName;split<;>rfl
theorem Ez{n q m:Nat}:∀(l:List Paper),(l.map (qr n q)).find? (λp=>p.num==m)=(l.find? λp=>p.num==m).map (qr n q)
 | []=>rfl
 |p::l=>by
  rw[aT,dM,dM,tF];cases p.num==m with
  |true=>rfl
  |false=>exact Ez l
theorem rm(s:State)(n q m:Nat):Vbptae.paper (without s n q) m=(Vbptae.paper s m).map (qr n q):=by
 unfold Vbptae.paper;rw[jh];exact Ez s.papers
theorem ub(s:State)(n q:Nat):∀(f:Nat)(p:Paper),root (without s n q) f (qr n q p)=qr n q (root s f p)
 |0,p=>rfl
 |f+1,p=>by
  rw[root,root,Fq,rm]
  by_cases h:p.parent=0
  ·rw[az h,az h]
  ·rw[aw h,aw h]
   cases e:Vbptae.paper s p.parent with
   |none=>rfl
   |some r=>exact ub s n q f r
theorem uy{s:State}{n q t:Nat}{r:Paper}(h:∀p∈s.papers,p.num=n->t<p.day):gone (without s n q) (qr n q r) t=gone s r t:=by
 unfold gone;rw[Mt,HG,tF,jh,List.any_map];congr 1;congr 2;rw[bz,fJ,fJ];constructor
 ·rintro⟨p,hp,hc⟩
  refine⟨p,hp,?_⟩;simp only[qK,nB,a6,cx]at hc⊢;refine⟨hc.1,?_⟩;have:p.num≠n:=λe=>absurd (h p hp e) (by omega)
  have e:qr n q p=p:=by unfold qr;rw[aw this]
  rw[e]at hc;exact hc.2
 ·rintro⟨p,hp,hc⟩
  refine⟨p,hp,?_⟩;simp only[qK,nB,a6,cx]at hc⊢;refine⟨hc.1,?_⟩;have:p.num≠n:=λe=>absurd (h p hp e) (by omega)
  have e:qr n q p=p:=by unfold qr;rw[aw this]
  rw[e];exact hc.2
theorem w9{s:State}{n q:Nat}{r:Paper}{b:Box}(h:∀p∈s.papers,p.num=n->r.day<p.day):isFirst (without s n q) (qr n q r) b=isFirst s r b:=by
 unfold isFirst;rw[jh,List.all_map,xr,nB];rw[bz,bE,bE];constructor
 ·intro k p hp
  have:=k p hp;simp only[qK,xr,uX,nB]at this
  rwa [uy h]at this
 ·intro k p hp
  simp only[qK,xr,uX,nB];rw[uy h];exact k p hp
theorem rE(s:State)(n q:Nat):∀f m,moved (without s n q) f m=moved s f m
 |0,m=>rfl
 |f+1,m=>by
  rw[moved,moved,rE s n q f (m+1)];rfl
theorem Aw(s:State)(n q:Nat)(r:Paper):limit (without s n q) (qr n q r)=limit s r:=by
 unfold limit;rw[rE,nB]
theorem yW(s:State)(n q:Nat)(r:Paper)(b:Box)(t:Nat):holder (without s n q) (qr n q r) b t=holder s r b t:=by
 unfold holder;rw[tF,xr];rfl
theorem Dj{s:State}{n q:Nat}{p r:Paper}{b:Box}(h:∀p∈s.papers,p.num=n->r.day<p.day):why (without s n q) p (qr n q r) b=why s p r b:=by
 unfold why;rw[tF,uX,Aw,w9 h,yW]
theorem A7{s:State}{n q:Nat}{p:Paper}{b:Box}(h:∀r∈s.papers,r.num=n->r.day=p.day):∀(l:List Paper),(∀r∈l,r∈s.papers)->∀x:Nat×Nat,x.1<=p.day->
  (l.map (qr n q)).foldl (fQ (without s n q) p b) x=l.foldl (fQ s p b) x
 | [],_,x,_=>rfl
 |r::l,hl,x,hx=>by
  rw[aT,dh,dh];have e:fQ (without s n q) p b x (qr n q r)=fQ s p b x r:=by
   unfold fQ;rw[nB,tF]
   by_cases hd:r.day<x.1
   ·rw[Dj λp' j7 e=>by rw[h p' j7 e];omega]
   ·rw[aw (λz=>hd z.2),aw (λz=>hd z.2)]
  rw[e];refine A7 h l (λr h=>hl r (ao _ h)) _ ?_;unfold fQ;split
  ·rename_i z;exact gZ (bA z.2 hx)
  ·exact hx
theorem vK{s:State}{n q:Nat}{p:Paper}{b:Box}(h:∀r∈s.papers,r.num=n->r.day=p.day):earliest (without s n q) p b=earliest s p b:=by
 show(without s n q).papers.foldl (fQ (without s n q) p b) (p.day,p.num)=_
 rw[jh];exact A7 h s.papers (λ_ h=>h) (p.day,p.num) (ay _)
theorem Nv{s:State}(W:s.papers.Pairwise (λa b=>a.num<b.num)){p ro:Paper}(hp:p∈s.papers)(hr:root s PAPERS p=ro)(Wd:ro∈s.papers)(q:Nat):
  lost s p q=((List.range p.boxes.length).map λi=>(i,(earliest s (dropName q ro) (p.boxes.getD i [])).1)).filter λx=>(earliest s ro (p.boxes.getD x.1 [])).1 != x.2:=by
 have same:∀r∈s.papers,r.num=ro.num->r=ro:=λr h e=>by
  have:=iQ W h;rw[e,iQ W Wd]at this;exact(bw this).symm
 unfold lost;simp only[hr];have e0:(Vbptae.paper (without s ro.num q) p.num).getD p=qr ro.num q p:=by
  rw[rm,iQ W hp];rfl
 have e1:∀b,dayIn (without s ro.num q) ((Vbptae.paper (without s ro.num q) p.num).getD p) b=earliest s (dropName q ro) b:=λb=>by
  unfold dayIn;rw[e0,ub,hr];have:qr ro.num q ro=dropName q ro:=by unfold qr;rw[az rfl]
  rw[this];exact vK λr h e=>by rw[same r h e];rfl
 have e2:∀b,dayIn s p b=earliest s ro b:=λb=>by unfold dayIn;rw[hr]
 simp only[e1,e2]
def joined(p q:Paper):Bool:=p.names.contains q.num||(q.names.contains p.num||(p.parent==q.num||q.parent==p.num))
def Xr(s:State)(n:Nat)(S:Nat->Prop):Prop:=S n/\∀p∈s.papers,∀q∈s.papers,S p.num->joined p q=true->S q.num
def Ju(s:State)(n m:Nat):Prop:=∀S,Xr s n S->S m
def eX(s:State)(l:List Nat):List Nat:=(s.papers.filter λp=>l.contains p.num||(l.contains p.parent||((p.names.any λn=>l.contains n)||s.papers.any λq=>l.contains q.num&&(q.parent==p.num||q.names.contains p.num)))).map λp=>p.num
theorem o9(s:State)(f:Nat)(l:List Nat):spread s (f+1) l=spread s f (eX s l):=rfl
theorem mh{s:State}(W:Wf s){l:List Nat}(hl:∀n∈l,∃p∈s.papers,p.num=n){m:Nat}:
  m∈eX s l↔∃p∈s.papers,p.num=m/\(p.num∈l\/∃q∈s.papers,q.num∈l/\joined q p=true):=by
 unfold eX;rw[aV];constructor
 ·rintro⟨p,hp,e⟩
  rw[cp]at hp;obtain⟨hp,hc⟩:=hp;refine⟨p,hp,e,?_⟩;simp only[dq,fJ,a6,gH,fb]at hc;rcases hc with h|h|⟨x,h1,h2⟩|⟨q,h1,h2,h3⟩
  ·exact .inl h
  ·obtain⟨q,hq,e⟩:=hl _ h
   refine .inr ⟨q,hq,by rw[e];exact h,?_⟩;unfold joined;simp[e]
  ·obtain⟨q,hq,e⟩:=hl _ h2
   refine .inr ⟨q,hq,by rw[e];exact h2,?_⟩;unfold joined;rw[<-e]at h1;simp[h1]
  ·refine .inr ⟨q,h1,h2,?_⟩
   unfold joined;rcases h3 with h3|h3
   ·simp[h3]
   ·simp[h3]
 ·rintro⟨p,hp,e,hc⟩
  refine⟨p,cp.mpr ⟨hp,?_⟩,e⟩;simp only[dq,fJ,a6,gH,fb];rcases hc with h|⟨q,hq,h1,h2⟩
  ·exact .inl h
  ·unfold joined at h2
   simp only[dq,gH,fb]at h2;rcases h2 with h2|h2|h2|h2
   ·exact .inr (.inr (.inr ⟨q,hq,h1,.inr h2⟩))
   ·exact .inr (.inr (.inl ⟨q.num,h2,h1⟩))
   ·exact .inr (.inr (.inr ⟨q,hq,h1,.inl h2⟩))
   ·exact .inr (.inl (by rw[h2];exact h1))
theorem Fv{s:State}{l:List Nat}{m:Nat}(h:m∈eX s l):∃p∈s.papers,p.num=m:=by
 unfold eX at h;obtain⟨p,hp,e⟩:=aV.mp h;exact⟨p,(cp.mp hp).1,e⟩
theorem lC{s:State}(W:Wf s)(l:List Nat):(eX s l).Pairwise (· < ·):=by
 unfold eX;rw[cy];exact(W.ps.filter _)
theorem lV{s:State}(W:Wf s){l:List Nat}(hl:∀n∈l,∃p∈s.papers,p.num=n):∀n∈l,n∈eX s l:=λn hn=>by
 obtain⟨p,hp,e⟩:=hl n hn;exact(mh W hl).mpr ⟨p,hp,e,.inl (by rw[e];exact hn)⟩
def AS(s:State)(l:List Nat):Prop:=∀p∈s.papers,∀q∈s.papers,p.num∈l->joined p q=true->q.num∈l
theorem Ds{s:State}(W:Wf s){l:List Nat}(hl:∀n∈l,∃p∈s.papers,p.num=n)(hs:AS s l):∀m,m∈eX s l↔m∈l:=λm=>by
 refine⟨λh=>?_,lV W hl m⟩;obtain⟨p,hp,e,h|⟨q,hq,h1,h2⟩⟩:=(mh W hl).mp h
 ·rw[<-e];exact h
 ·rw[<-e];exact hs q hq p hp h1 h2
theorem MT{s:State}(W:Wf s){l:List Nat}(hl:∀n∈l,∃p∈s.papers,p.num=n)(h:∀m,m∈eX s l->m∈l):AS s l:=λp hp q hq h1 h2=>
 h _ ((mh W hl).mpr ⟨q,hq,rfl,.inr ⟨p,hp,h1,h2⟩⟩)
theorem yJ{s:State}(W:Wf s)(n:Nat):∀(f:Nat)(l:List Nat),l≠ []->l.Nodup->(∀m∈l,∃p∈s.papers,p.num=m)->(∀m∈l,Ju s n m)->n∈l->s.papers.length<f+l.length+1->
  (spread s f l).Nodup/\(∀m∈spread s f l,∃p∈s.papers,p.num=m)/\(∀m∈spread s f l,Ju s n m)/\n∈spread s f l/\AS s (spread s f l)
 |0,l,_,hd,hl,hh,hn,hf=>by
  refine⟨hd,hl,hh,hn,?_⟩;have all:∀p∈s.papers,p.num∈l:=λp hp=>by
   by_cases h:p.num∈l
   ·exact h
   ·exfalso
    have nd:(p.num::l).Nodup:=bY.mpr ⟨h,hd⟩
    have:=dW (k:=s.papers.map λp=>p.num) nd λx hx=>by
     rcases aB.mp hx with e|hx
     ·rw[e];exact ff hp
     ·obtain⟨q,hq,e⟩:=hl x hx
      rw[<-e];exact ff hq
    rw[ab,aq]at this;omega
  exact λp hp q hq _ _=>all q hq
 |f+1,l,h0,hd,hl,hh,hn,hf=>by
  rw[o9];have hd1:(eX s l).Nodup:=(lC W l).imp λh=>a0 h
  have hh1:∀m∈eX s l,Ju s n m:=λm hm=>by
   obtain⟨p,hp,e,h|⟨q,hq,h1,h2⟩⟩:=(mh W hl).mp hm
   ·rw[<-e];exact hh _ h
   ·intro S hS
    rw[<-e];exact hS.2 q hq p hp (hh _ h1 S hS) h2
  have QO:=lV W hl n hn;have h01:eX s l≠ []:=λe=>by rw[e]at QO;simp at QO
  by_cases hg:∀m,m∈eX s l->m∈l
  ·
   have hs:AS s l:=MT W hl hg;have tJ:∀(f:Nat)(k:List Nat),k.Nodup->(∀m,m∈k↔m∈l)->(spread s f k).Nodup/\∀m,m∈spread s f k↔m∈l:=by
    intro f
    induction f with
    |zero=>intro k h1 h2;exact⟨h1,h2⟩
    |succ f ih=>
     intro k h1 h2;rw[o9];have hk:∀m∈k,∃p∈s.papers,p.num=m:=λm hm=>hl m ((h2 m).mp hm)
     have hsk:AS s k:=λp hp q hq a b=>(h2 _).mpr (hs p hp q hq ((h2 _).mp a) b)
     exact ih _ ((lC W k).imp λh=>a0 h) λm=>(Ds W hk hsk m).trans (h2 m)
   obtain⟨a,b⟩:=tJ f (eX s l) hd1 λm=>⟨hg m,lV W hl m⟩
   exact⟨a,λm hm=>hl m ((b m).mp hm),λm hm=>hh m ((b m).mp hm),(b n).mpr hn,λp hp q hq h1 h2=>(b _).mpr (hs p hp q hq ((b _).mp h1) h2)⟩
  ·
   have lT:l.length<(eX s l).length:=by
    obtain⟨m,hm1,hm2⟩:∃m,m∈eX s l/\m∉l:=by
     by_cases h:∃m,m∈eX s l/\m∉l
     ·exact h
     ·exact absurd (λm hm=>Classical.byContradiction λz=>h ⟨m,hm,z⟩) hg
    have:=dW (k:=eX s l) (bY.mpr ⟨hm2,hd⟩) λx hx=>by
     rcases aB.mp hx with e|hx
     ·rw[e];exact hm1
     ·exact lV W hl x hx
    rw[aq]at this;omega
   exact yJ W n f (eX s l) h01 hd1 (λm hm=>Fv hm) hh1 QO (by omega)
theorem qQ{s:State}(W:Wf s):∀(f:Nat)(l:List Nat),(spread s (f+1) l).Pairwise (· < ·)
 |0,l=>lC W l
 |f+1,l=>by rw[o9];exact qQ W f _
theorem Ja{s:State}(W:Wf s){p:Paper}(hp:p∈s.papers):(family s p.num).Pairwise (· < ·)/\∀m,m∈family s p.num↔Ju s p.num m:=by
 have pl:=W.pl;obtain⟨a,b,c,d,e⟩:=yJ W p.num 24 [p.num] (by simp) (by simp) (λm hm=>⟨p,hp,(aP.mp hm).symm⟩) (λm hm S hS=>by rw[aP.mp hm];exact hS.1) ax (by simp;omega)
 refine⟨qQ W 23 [p.num],λm=>⟨c m,λh=>?_⟩⟩;exact h (λm=>m∈spread s 24 [p.num]) ⟨d,λp hp q hq h1 h2=>e p hp q hq h1 h2⟩
theorem Jb{s:State}(W:Wf s){p:Paper}(hp:p∈s.papers){l:List Nat}(h1:l.Pairwise (· < ·))(h2:∀m∈l,Ju s p.num m)(h3:p.num∈l)(h4:AS s l):l=family s p.num:=by
 obtain⟨a,b⟩:=Ja W hp;refine iN (R:=λa b:Nat=>a<b) (λa b h1 h2=>by omega) h1 a λm=>?_
 rw[b m];exact⟨h2 m,λh=>h (λm=>m∈l) ⟨h3,h4⟩⟩
theorem yZ:∀(l:List Nat)(r:List Nat),r.Pairwise (· < ·)->(l.foldl (λr x=>putNum x r) r).Pairwise (· < ·)/\∀y,y∈l.foldl (λr x=>putNum x r) r↔y∈r\/y∈l
 | [],r,h=>⟨h,λy=>by simp⟩
 |x::l,r,h=>by
  rw[dh];obtain⟨a,b⟩:=yZ l (putNum x r) (gL h);refine⟨a,λy=>?_⟩;rw[b y,jO];simp only[aB];constructor
  ·rintro((h|h)|h)
   ·exact .inr (.inl h)
   ·exact .inl h
   ·exact .inr (.inr h)
  ·rintro(h|h|h)
   ·exact .inl (.inr h)
   ·exact .inl (.inl h)
   ·exact .inr h
theorem y6{l k:List Nat}(h1:k.Pairwise (· < ·))(h2:∀x,x∈k↔x∈l):l.foldl (λr x=>putNum x r) []=k:=by
 obtain⟨a,b⟩:=yZ l [] .nil;refine iN (R:=λa b:Nat=>a<b) (λa b h1 h2=>by omega) a h1 λx=>?_
 rw[b x,h2 x];simp
theorem FD{s:State}{p:Paper}{k:List Nat}(h1:k.Pairwise (· < ·))(h2:∀x,x∈k↔∃b∈p.boxes,(dayIn s p b).2=x):sources s p=k:=by
 have e:sources s p=(p.boxes.map λb=>(dayIn s p b).2).foldl (λl x=>putNum x l) []:=by
  unfold sources;rw[List.foldl_map]
 rw[e];refine y6 h1 λx=>?_
 rw[h2 x,aV]
def AO(q:Paper)(b:Box)(t:Nat)(h:Nat)(d:Deed):Nat:=if d.paper=q.num/\d.boxes.contains b=true/\d.day<=t/\d.giver=h then d.taker else h
theorem Ay{s:State}{q:Paper}{b:Box}{t:Nat}:holder s q b t=(s.deeds.filter λd=>d.paper==q.num&&decide (d.day<=t)).foldl (λh d=>if d.boxes.contains b=true/\d.giver=h then d.taker else h) q.who:=by
 have e1:holder s q b t=s.deeds.foldl (AO q b t) q.who:=rfl;have e2:=oj (AO q b t) (λd=>d.paper==q.num&&decide (d.day<=t)) (λx a h=>by
  unfold AO;rw[aw];rintro⟨h1,_,h2,_⟩;simp[h1,h2]at h) s.deeds q.who
 rw[e1,e2];have:∀(l:List Deed)(x:Nat),(∀d∈l,d.paper=q.num/\d.day<=t)->l.foldl (AO q b t) x=l.foldl (λh d=>if d.boxes.contains b=true/\d.giver=h then d.taker else h) x:=by
  intro l
  induction l with
  |nil=>intro x _;rfl
  |cons d l ih=>
   intro x hl;rw[dh,dh];obtain⟨h1,h2⟩:=hl d ax;have e:AO q b t x d=if d.boxes.contains b=true/\d.giver=x then d.taker else x:=by
    unfold AO
    by_cases c:d.boxes.contains b=true/\d.giver=x
    ·rw[az ⟨h1,c.1,h2,c.2⟩,az c]
    ·rw[aw (λz=>c ⟨z.2.1,z.2.2.2⟩),aw c]
   rw[e];exact ih _ λd hd=>hl d (ao _ hd)
 refine this _ _ λd hd=>?_
 have:=(cp.mp hd).2
 simpa using this
theorem IP{s:State}(W:Wf s){q:Paper}{b:Box}{t:Nat}{l:List Deed}(h1:l.Pairwise m7)(h2:∀d,d∈l↔d∈s.deeds/\d.paper=q.num/\d.day<=t):
  holder s q b t=l.foldl (λh d=>if d.boxes.contains b=true/\d.giver=h then d.taker else h) q.who:=by
 rw[Ay];congr 1;refine iN Gp (W.ds.filter _) h1 λd=>?_
 rw[cp,h2 d];simp
end Pb
namespace PbSet
open PySem PySem.SetTable
def qj(xs:Array Nat):Prop:=∀i j(hi:i<xs.size)(hj:j<xs.size),i<j->xs[i]<xs[j]
theorem zu{xs:Array Nat}(R:qj xs)(j:Nat):∀(f lo hi:Nat),hi<=xs.size->lo<=hi->hi-lo<=f->
  (∀i(h:i<xs.size),i<lo->xs[i]<j)->(∀i(h:i<xs.size),hi<=i->j<=xs[i])->
  ∃p,below.go xs j f lo hi=p/\p<=xs.size/\(∀i(h:i<xs.size),i<p->xs[i]<j)/\∀i(h:i<xs.size),p<=i->j<=xs[i]
 |0,lo,hi,h1,h2,h3,h4,h5=>⟨lo,rfl,by omega,h4,λi h q=>h5 i h (by omega)⟩
 |f+1,lo,hi,h1,h2,h3,h4,h5=>by
  unfold below.go
  by_cases hl:lo<hi
  ·rw[az hl]
   have hm:(lo+hi)/2<xs.size:=(by omega);have e:xs.getD ((lo+hi)/2) j=xs[(lo+hi)/2]:=by simp[hm]
   simp only[e]
   by_cases hc:xs[(lo+hi)/2]<j
   ·rw[az hc]
    refine zu R j f ((lo+hi)/2+1) hi h1 (by omega) (by omega) (λi h q=>?_) h5
    by_cases uU:i=(lo+hi)/2
    ·subst uU;exact hc
    ·have:=R i ((lo+hi)/2) h hm (by omega);omega
   ·rw[aw hc]
    refine zu R j f lo ((lo+hi)/2) (by omega) (by omega) (by omega) h4 (λi h q=>?_)
    by_cases uU:i=(lo+hi)/2
    ·subst uU;omega
    ·have:=R ((lo+hi)/2) i hm h (by omega);omega
  ·rw[aw hl]
   exact⟨lo,rfl,by omega,h4,λi h q=>h5 i h (by omega)⟩
theorem qe{xs:Array Nat}(R:qj xs)(j:Nat):∃p,below xs j=p/\p<=xs.size/\(∀i(h:i<xs.size),i<p->xs[i]<j)/\∀i(h:i<xs.size),p<=i->j<=xs[i]:=
 zu R j xs.size 0 xs.size (ay _) (bp _) (by omega) (λi h q=>by omega) (λi h q=>by omega)
structure Rn(t:SetTable):Prop where
 rise:qj t.place
 VF:t.dummies=#[]
 le:∀i(h:i<t.place.size),t.place[i]<=t.mask
theorem has_none(j:Nat):has #[] j=false:=by
 unfold has below below.go;simp
theorem u5{t:SetTable}(T:Rn t){i:Nat}(h:i<t.place.size):t.slot t.place[i]=.live i:=by
 obtain⟨p,e,h1,h2,h3⟩:=qe T.rise t.place[i];have hp:p=i:=by
  apply bI;intro q;rcases Nat.lt_or_gt_of_ne q with z|z
  ·have a:=h3 p (by omega) (ay _)
   have b:=T.rise p i (by omega) h z;omega
  ·have:=h2 i h z
   omega
 unfold slot;rw[e,hp];simp[h]
theorem nF{t:SetTable}(T:Rn t)(j:Nat):(t.slot j=.empty/\∀i(h:i<t.place.size),t.place[i]≠j)\/∃i,∃h:i<t.place.size,t.place[i]=j/\t.slot j=.live i:=by
 by_cases q:∃i,∃h:i<t.place.size,t.place[i]=j
 ·obtain⟨i,h,e⟩:=q
  exact .inr ⟨i,h,e,by rw[<-e];exact u5 T h⟩
 ·refine .inl ⟨?_,λi h e=>q ⟨i,h,e⟩⟩
  unfold slot;rw[T.VF,has_none];obtain⟨p,e,h1,h2,h3⟩:=qe T.rise j;rw[e];have:¬(t.place[p]?==some j)=true:=by
   intro z;have z:t.place[p]?=some j:=by simpa using z
   obtain⟨h,z⟩:=Array.getElem?_eq_some_iff.mp z;exact q ⟨p,h,z⟩
  rw[aw this];simp
structure Pt where
 j:Nat
 more:Nat
 i:Nat
 perturb:Nat
def Rk(mask:Nat)(p:Pt):Pt:=
 if p.more>0 then{p with j:=p.j+1,more:=p.more-1}else
 let(i,perturb):=leap mask p.i p.perturb
 {j:=i,more:=runEnd mask i-i,i,perturb}
def start(mask:Nat)(h:Int):Pt:={j:=bits h%(mask+1),more:=runEnd mask (bits h%(mask+1))-bits h%(mask+1),i:=bits h%(mask+1),perturb:=bits h}
def walk(mask:Nat)(h:Int):Nat->Pt
 |0=>start mask h
 |n+1=>Rk mask (walk mask h n)
def fY(p:Pt):Probe:=⟨p.j,p.more,p.i,p.perturb,none⟩
theorem Gz(t:SetTable)(p:Pt):t.advance (fY p)=fY (Rk t.mask p):=by
 unfold advance Rk fY;simp only[];split<;>rfl
theorem JZ(t:SetTable)(h:Int):t.probeStart h=fY (start t.mask h):=rfl
def bs(mask:Nat)(h:Int):Nat->Nat×Nat
 |0=>(bits h%(mask+1),bits h)
 |k+1=>leap mask (bs mask h k).1 (bs mask h k).2
def run(mask i:Nat):Nat:=runEnd mask i-i
def off(mask:Nat)(h:Int):Nat->Nat
 |0=>0
 |k+1=>off mask h k+run mask (bs mask h k).1+1
theorem PQ(mask i:Nat):run mask i<=9:=by unfold run runEnd;split<;>omega
theorem OU(mask:Nat)(h:Int)(k:Nat):(bs mask h k).1<=mask:=by
 cases k with
 |zero=>exact Nat.le_of_lt_succ (Nat.mod_lt _ (by omega))
 |succ k=>exact Nat.le_of_lt_succ (Nat.mod_lt _ (by omega))
theorem PR{mask i:Nat}(h:i<=mask):i+run mask i<=mask:=by unfold run runEnd;split<;>omega
theorem xR(mask:Nat)(h:Int)(k:Nat)(h0:walk mask h (off mask h k)=⟨(bs mask h k).1,run mask (bs mask h k).1,(bs mask h k).1,(bs mask h k).2⟩):
  ∀r,r<=run mask (bs mask h k).1->walk mask h (off mask h k+r)=⟨(bs mask h k).1+r,run mask (bs mask h k).1-r,(bs mask h k).1,(bs mask h k).2⟩
 |0,_=>h0
 |r+1,hr=>by
  have ih:=xR mask h k h0 r (by omega);show Rk mask (walk mask h (off mask h k+r))=_;rw[ih];unfold Rk;rw[az (show run mask (bs mask h k).1-r>0 by omega)]
  have e:run mask (bs mask h k).1-r-1=run mask (bs mask h k).1-(r+1):=by omega
  simp only[e];rfl
theorem xS(mask:Nat)(h:Int):∀k,walk mask h (off mask h k)=⟨(bs mask h k).1,run mask (bs mask h k).1,(bs mask h k).1,(bs mask h k).2⟩
 |0=>rfl
 |k+1=>by
  have ih:=xR mask h k (xS mask h k) _ (ay _);show Rk mask (walk mask h (off mask h k+run mask (bs mask h k).1))=_
  rw[ih];unfold Rk;rw[aw (show¬run mask (bs mask h k).1-run mask (bs mask h k).1>0 by omega)]
  rfl
theorem tw(mask:Nat)(h:Int)(k r:Nat)(hr:r<=run mask (bs mask h k).1):(walk mask h (off mask h k+r)).j=(bs mask h k).1+r:=by
 rw[xR mask h k (xS mask h k) r hr]
theorem KG(mask:Nat)(h:Int):∀k,off mask h k<=10*k
 |0=>ay _
 |k+1=>by
  have:=KG mask h k;have:=PQ mask (bs mask h k).1
  unfold off;omega
theorem K2(mask:Nat)(h:Int):∀n,∃k r,r<=run mask (bs mask h k).1/\n=off mask h k+r
 |0=>⟨0,0,bp _,rfl⟩
 |n+1=>by
  obtain⟨k,r,h1,h2⟩:=K2 mask h n
  by_cases q:r<run mask (bs mask h k).1
  ·exact⟨k,r+1,q,by omega⟩
  ·refine⟨k+1,0,bp _,?_⟩
   show n+1=off mask h k+run mask (bs mask h k).1+1+0
   omega
theorem Bv(mask:Nat)(h:Int)(n:Nat):(walk mask h n).j<=mask:=by
 obtain⟨k,r,h1,rfl⟩:=K2 mask h n;rw[tw mask h k r h1];have:=PR (OU mask h k);omega
theorem yr(mask:Nat)(h:Int):∀k,(bs mask h k).2=bits h/32^k
 |0=>by simp[bs]
 |k+1=>by
  show(bs mask h k).2/32=_
  rw[yr mask h k,Nat.div_div_eq_div_mul,Nat.pow_succ]
theorem NZ(h:Int):bits h<2^64:=by unfold bits;omega
theorem Im(mask:Nat)(h:Int)(k:Nat):(bs mask h (13+k)).2=0:=by
 rw[yr];apply Nat.div_eq_of_lt;have h1:=NZ h;have h2:32^13<=32^(13+k):=Nat.pow_le_pow_right (by decide) (by omega);have h3:(2:Nat)^64<=32^13:=by decide
 omega
def turn(mask:Nat):Nat->Nat->Nat
 |0,i=>i
 |m+1,i=>(turn mask m i*5+1)%(mask+1)
theorem CO(mask:Nat)(h:Int):∀m,(bs mask h (13+m)).1=turn mask m (bs mask h 13).1
 |0=>rfl
 |m+1=>by
  show(leap mask (bs mask h (13+m)).1 (bs mask h (13+m)).2).1=_
  unfold leap;rw[Im,CO mask h m];rfl
theorem NX:∀i,i<8->∀e,e<8->∃m,m<8/\turn 7 m i=e:=by decide +kernel
theorem LR:∀i,i<32->∀e,e<32->∃m,m<32/\turn 31 m i=e:=by decide +kernel
def Small(mask:Nat):Prop:=mask=7\/mask=31
theorem qA{mask:Nat}(S:Small mask)(h:Int){e:Nat}(he:e<=mask):∃k,k<mask+14/\(bs mask h k).1=e:=by
 have hb:=OU mask h 13;rcases S with rfl|rfl
 ·obtain⟨m,hm,q⟩:=NX (bs 7 h 13).1 (by omega) e (by omega)
  exact⟨13+m,by omega,by rw[CO];exact q⟩
 ·obtain⟨m,hm,q⟩:=LR (bs 31 h 13).1 (by omega) e (by omega)
  exact⟨13+m,by omega,by rw[CO];exact q⟩
theorem ym{mask:Nat}(S:Small mask)(h:Int){e:Nat}(he:e<=mask):∃n,n<10*turns mask/\(walk mask h n).j=e:=by
 obtain⟨k,hk,q⟩:=qA S h he;refine⟨off mask h k,?_,?_⟩
 ·have:=KG mask h k
  unfold turns;omega
 ·rw[xS];exact q
theorem Bd{t:SetTable}(T:Rn t)(hf:t.place.size<=t.mask):∃e,e<=t.mask/\t.slot e=.empty:=by
 apply bI;intro q;have all:∀e,e<t.mask+1->e∈t.place.toList:=λe he=>by
  rcases nF T e with⟨h,_⟩|⟨i,h,e',_⟩
  ·exact absurd ⟨e,by omega,h⟩ q
  ·rw[<-e'];simp
 have nd:∀{l k:List Nat},l.Nodup->(∀x∈l,x∈k)->l.length<=k.length:=by
  intro l
  induction l with
  |nil=>intro k _ _;exact bp _
  |cons a l ih=>
   intro k hn hs;rw[bY]at hn;have h1:a∈k:=hs a ax;have h2:=ih (k:=k.erase a) hn.2 λx hx=>(jX (λ(e:x=a)=>hn.1 (by rw[<-e];exact hx))).mpr (hs x (ao _ hx))
   have h3:=kY h1;have h4:=i4 h1;simp only[aq];omega
 have:=nd (l:=List.range (t.mask+1)) (k:=t.place.toList) kq λx hx=>all x (dI.mp hx)
 simp at this;omega
theorem DL{t:SetTable}(T:Rn t)(hashAt:Nat->Int)(h:Int){N:Nat}(hN:t.slot (walk t.mask h N).j=.empty):∀(d n f:Nat),N-n=d->n<=N->d<f->
  ∃m,n<=m/\m<=N/\(∀k,n<=k->k<m->∃i,t.slot (walk t.mask h k).j=.live i/\hashAt i≠h)/\
   ((t.slot (walk t.mask h m).j=.empty/\probe.go t hashAt h f (fY (walk t.mask h n))=some (.empty (walk t.mask h m).j none))\/
    ∃i,m<N/\t.slot (walk t.mask h m).j=.live i/\hashAt i=h/\probe.go t hashAt h f (fY (walk t.mask h n))=some (.candidate (walk t.mask h m).j i (fY (walk t.mask h (m+1)))))
 |d,n,0,_,_,hf=>by omega
 |d,n,f+1,hd,hn,hf=>by
  have pe:probe.go t hashAt h (f+1) (fY (walk t.mask h n))=(match t.slot (walk t.mask h n).j with
   | .empty=>some (.empty (walk t.mask h n).j none)
   | .dummy=>probe.go t hashAt h f (t.advance {fY (walk t.mask h n)with dummy:=some (walk t.mask h n).j})
   | .live i=>if hashAt i==h then some (.candidate (walk t.mask h n).j i (t.advance (fY (walk t.mask h n))))else probe.go t hashAt h f (t.advance (fY (walk t.mask h n)))):=rfl
  rcases nF T (walk t.mask h n).j with⟨hs,_⟩|⟨i,hi,_,hs⟩
  ·rw[hs]at pe
   exact⟨n,ay _,hn,λk h1 h2=>by omega,.inl ⟨hs,pe⟩⟩
  ·rw[hs]at pe
   simp only[]at pe;rw[Gz]at pe
   by_cases q:n=N
   ·rw[q,hN]at hs;cases hs
   ·by_cases hh:hashAt i=h
    ·rw[az (by simpa using hh)]at pe
     exact⟨n,ay _,hn,λk h1 h2=>by omega,.inr ⟨i,by omega,hs,hh,pe⟩⟩
    ·obtain⟨m,h1,h2,h3,h4⟩:=DL T hashAt h hN (d-1) (n+1) f (by omega) (by omega) (by omega)
     rw[aw (by simpa using hh)]at pe;refine⟨m,by omega,h2,λk k1 k2=>?_,?_⟩
     ·by_cases z:k=n
      ·subst z;exact⟨i,hs,hh⟩
      ·exact h3 k (by omega) k2
     ·rw[pe]
      exact h4
theorem wF{t:SetTable}(T:Rn t)(hashAt:Nat->Int)(h:Int){N n:Nat}(hN:t.slot (walk t.mask h N).j=.empty) (hn:n<=N) (hf:N<10*turns t.mask):
  ∃m,n<=m/\m<=N/\(∀k,n<=k->k<m->∃i,t.slot (walk t.mask h k).j=.live i/\hashAt i≠h)/\
   ((t.slot (walk t.mask h m).j=.empty/\t.probe hashAt h (fY (walk t.mask h n))=some (.empty (walk t.mask h m).j none))\/
    ∃i,m<N/\t.slot (walk t.mask h m).j=.live i/\hashAt i=h/\t.probe hashAt h (fY (walk t.mask h n))=some (.candidate (walk t.mask h m).j i (fY (walk t.mask h (m+1))))):=
 DL T hashAt h hN (N-n) n (10*turns t.mask) rfl hn (by omega)
theorem sg{t:SetTable}(T:Rn t)(j:Nat):t.slot j=.empty↔j∉t.place.toList:=by
 constructor
 ·intro h hm
  obtain⟨i,hi,e⟩:=a8.mp hm;have uU:i<t.place.size:=by simpa using hi
  have e':t.place[i]=j:=by simpa using e
  rw[<-e',u5 T uU]at h;cases h
 ·intro h
  rcases nF T j with⟨hs,_⟩|⟨i,hi,e,_⟩
  ·exact hs
  ·exact absurd (by rw[<-e];simp) h
theorem sk(xs:Array Nat):qj xs↔xs.toList.Pairwise (· < ·):=by
 rw[cD];constructor
 ·intro R i j hi hj h
  have:=R i j (by simpa using hi) (by simpa using hj) h;simpa using this
 ·intro R i j hi hj h
  have:=R i j (by simpa using hi) (by simpa using hj) h;simpa using this
structure Tab(t:SetTable)(hs:List Int):Prop where
 ok:Rn t
 small:Small t.mask
 size:t.place.toList.length=hs.length
 reach:∀q∈t.place.toList.zip hs,∃n,(walk t.mask q.2 n).j=q.1/\∀m,m<n->(walk t.mask q.2 m).j∈t.place.toList
theorem mF{α:Type}(xs:Array α)(p:Nat)(x:α)(hp:p<=xs.size):(insertAt xs p x).toList=xs.toList.take p++x::xs.toList.drop p:=by
 unfold insertAt;simp;exact zJ (by simp)
theorem GK{α β:Type}(a:α)(b:β):∀(p:Nat)(l:List α)(k:List β),l.length=k.length->p<=l.length->
  (l.take p++a::l.drop p).zip (k.take p++b::k.drop p)=(l.zip k).take p++(a,b)::(l.zip k).drop p
 |0,l,k,h,_=>by simp
 |p+1,[],k,h,hp=>by simp at hp
 |p+1,x::l,[],h,_=>by simp at h
 |p+1,x::l,y::k,h,hp=>by
  simp only[List.take_succ_cons,List.drop_succ_cons,List.cons_append,dH];rw[GK a b p l k (by simpa using h) (by simpa using hp)]
theorem Bb(finger moves:Nat)(led:Bool):Tab (SetTable.fresh finger moves led) []:=by
 refine⟨⟨λi j hi=>?_,rfl,λi hi=>?_⟩,.inl rfl,rfl,λq hq=>?_⟩
 ·exact absurd hi (by simp[SetTable.fresh])
 ·exact absurd hi (by simp[SetTable.fresh])
 ·simp at hq
theorem GV{t:SetTable}{hs:List Int}(B:Tab t hs)(h:Int){m:Nat}(he:t.slot (walk t.mask h m).j=.empty) (hb:∀k,k<m->t.slot (walk t.mask h k).j≠ .empty):
  ∃p,(t.put (walk t.mask h m).j).2=p/\p<=hs.length/\Tab (t.put (walk t.mask h m).j).1 (hs.take p++h::hs.drop p)/\(t.put (walk t.mask h m).j).1.mask=t.mask/\(t.put (walk t.mask h m).j).1.place.size=t.place.size+1/\
   (t.put (walk t.mask h m).j).1.plain=t.plain/\(t.put (walk t.mask h m).j).1.led=t.led/\(t.put (walk t.mask h m).j).1.dummies=#[]:=by
 obtain⟨p,e,h1,h2,h3⟩:=qe B.ok.rise (walk t.mask h m).j
 have hd:(if has t.dummies (walk t.mask h m).j=true then eraseAt t.dummies (below t.dummies (walk t.mask h m).j)else t.dummies)=#[]:=by
  rw[B.ok.VF,has_none];rfl
 have e1:t.put (walk t.mask h m).j=({t with place:=insertAt t.place p (walk t.mask h m).j,dummies:=#[]},p):=by
  unfold SetTable.put;simp only[e];rw[hd]
 have hl:(insertAt t.place p (walk t.mask h m).j).toList=t.place.toList.take p++(walk t.mask h m).j::t.place.toList.drop p:=mF _ _ _ h1
 have hsz:t.place.toList.length=t.place.size:=by simp
 have vE:=(sg B.ok _).mp he
 have gv:∀x,x∈t.place.toList->x∈t.place.toList.take p++(walk t.mask h m).j::t.place.toList.drop p:=λx hx=>by
  rw[<-jD p t.place.toList]at hx;rcases br.mp hx with z|z
  ·exact cI _ z
  ·exact cB _ (ao _ z)
 have UE:=(sk _).mp B.ok.rise
 rw[e1];refine⟨p,rfl,by rw[<-B.size];omega,⟨⟨?_,rfl,?_⟩,B.small,?_,?_⟩,rfl,?_,rfl,rfl,rfl⟩
 ·rw[sk]
  show(insertAt t.place p (walk t.mask h m).j).toList.Pairwise _
  rw[hl,List.pairwise_append,b0];refine⟨UE.sublist (List.take_sublist _ _),⟨λx hx=>?_,UE.sublist (List.drop_sublist _ _)⟩,λx hx y hy=>?_⟩
  ·obtain⟨i,hi,ei⟩:=a8.mp hx
   rw[List.getElem_drop]at ei;have uU:p+i<t.place.size:=by rw[iM]at hi;omega
   have q:=h3 (p+i) uU (by omega);have e':t.place[p+i]=x:=by simpa using ei
   have:x≠(walk t.mask h m).j:=λz=>vE (by rw[<-z];exact C4 hx)
   omega
  ·obtain⟨i,hi,ei⟩:=a8.mp hx
   rw[List.getElem_take]at ei;rw[bW]at hi;have uU:i<t.place.size:=by omega
   have q:=h2 i uU (by omega);have e':t.place[i]=x:=by simpa using ei
   rcases aB.mp hy with z|z
   ·omega
   ·obtain⟨i2,Cy,RR⟩:=a8.mp z
    rw[List.getElem_drop]at RR;have WH:p+i2<t.place.size:=by rw[iM]at Cy;omega
    have q2:=h3 (p+i2) WH (by omega);have Xh:t.place[p+i2]=y:=by simpa using RR
    omega
 ·intro i hi
  have hm:(insertAt t.place p (walk t.mask h m).j)[i]∈(insertAt t.place p (walk t.mask h m).j).toList:=by simp
  show(insertAt t.place p (walk t.mask h m).j)[i]<=t.mask
  rw[hl]at hm;rcases br.mp hm with z|z
  ·obtain⟨i2,Cy,RR⟩:=a8.mp (C3 z)
   rw[<-RR];have:=B.ok.le i2 (by simpa using Cy);simpa using this
  ·rcases aB.mp z with z|z
   ·rw[z];exact Bv _ _ _
   ·obtain⟨i2,Cy,RR⟩:=a8.mp (C4 z)
    rw[<-RR];have:=B.ok.le i2 (by simpa using Cy);simpa using this
 ·show(insertAt t.place p (walk t.mask h m).j).toList.length=_
  rw[hl];simp only[aA,aq,bW,iM,B.size]
 ·show∀q∈(insertAt t.place p (walk t.mask h m).j).toList.zip _,∃n,(walk t.mask q.2 n).j=q.1/\∀m',m'<n->(walk t.mask q.2 m').j∈(insertAt t.place p (walk t.mask h m).j).toList
  rw[hl,GK _ _ p _ _ B.size (by omega)];intro q hq;have De:q=((walk t.mask h m).j,h)\/q∈t.place.toList.zip hs:=by
   rcases br.mp hq with z|z
   ·exact .inr (C3 z)
   ·rcases aB.mp z with z|z
    ·exact .inl z
    ·exact .inr (C4 z)
  rcases De with rfl|De
  ·refine⟨m,rfl,λk hk=>gv _ ?_⟩
   apply bI;intro z;exact hb k hk ((sg B.ok _).mpr z)
  ·obtain⟨n,r1,r2⟩:=B.reach q De
   exact⟨n,r1,λk hk=>gv _ (r2 k hk)⟩
 ·show(insertAt t.place p (walk t.mask h m).j).size=_
  rw[<-bh,hl];simp only[aA,aq,bW,iM];omega
def isFree(owner:Array (Option Nat))(j:Nat):Bool:=(owner.getD j (some 0)).isNone
theorem Bc{mask:Nat}(owner:Array (Option Nat))(h:Int):∀(f k ke:Nat),k<=ke->ke-k<f->isFree owner (bs mask h ke).1=true->
  ∃n,layClean.free mask owner f (bs mask h k).1 (bs mask h k).2=some (walk mask h n).j/\isFree owner (walk mask h n).j=true/\off mask h k<=n/\∀m,off mask h k<=m->m<n->isFree owner (walk mask h m).j=false
 |0,k,ke,_,hf,_=>by omega
 |f+1,k,ke,hk,hf,pZ=>by
  unfold layClean.free;have er:runEnd mask (bs mask h k).1+1-(bs mask h k).1=run mask (bs mask h k).1+1:=by
   unfold run runEnd;split<;>omega
  rw[er];cases e:(List.range (run mask (bs mask h k).1+1)).find? (λr=>isFree owner ((bs mask h k).1+r))with
  |some r=>
   have hr:r<run mask (bs mask h k).1+1:=dI.mp (ku e)
   have hp:=qo e;refine⟨off mask h k+r,?_,?_,by omega,λm h1 h2=>?_⟩
   ·show(match(List.range (run mask (bs mask h k).1+1)).find? (λr=>isFree owner ((bs mask h k).1+r))with|some k'=>_|none=>_)=_
    rw[e,tw mask h k r (by omega)]
   ·rw[tw mask h k r (by omega)];exact hp
   ·obtain⟨i,hi,e2,h3⟩:=List.find?_range_eq_some.mp e |> λq=>(⟨r,hr,rfl,q⟩:∃i,i<run mask (bs mask h k).1+1/\i=r/\_)
    have:=h3.2.2 (m-off mask h k) (by omega);rw[show m=off mask h k+(m-off mask h k) by omega,tw mask h k _ (by omega)];simpa using this
  |none=>
   have hn:∀r,r<run mask (bs mask h k).1+1->isFree owner ((bs mask h k).1+r)=false:=λr hr=>by
    have:=List.find?_eq_none.mp e r (dI.mpr hr);simpa using this
   have hke:k≠ke:=λz=>by
    subst z;have:=hn 0 (by omega);rw[Jz,pZ]at this;cases this
   obtain⟨n,h1,h2,h3,h4⟩:=Bc owner h f (k+1) ke (by omega) (by omega) pZ;refine⟨n,?_,h2,?_,λm m1 m2=>?_⟩
   ·show(match(List.range (run mask (bs mask h k).1+1)).find? (λr=>isFree owner ((bs mask h k).1+r))with|some k'=>_|none=>_)=_
    rw[e];exact h1
   ·have:off mask h (k+1)=off mask h k+run mask (bs mask h k).1+1:=rfl
    omega
   ·have e2:off mask h (k+1)=off mask h k+run mask (bs mask h k).1+1:=rfl
    by_cases z:off mask h (k+1)<=m
    ·exact h4 m z m2
    ·rw[show m=off mask h k+(m-off mask h k) by omega,tw mask h k _ (by omega)]
     exact hn _ (by omega)
structure Own(mask:Nat)(owner:Array (Option Nat))(hs:List Int)(js:List Nat):Prop where
 size:owner.size=mask+1
 len:js.length=hs.length
 le:∀j∈js,j<=mask
 at_:∀(j:Nat),j<=mask->∀(i:Nat),owner[j]?=some (some i)↔js[i]?=some j
 reach:∀(i:Nat)(h:Int),hs[i]?=some h->∃(n j:Nat),js[i]?=some j/\(walk mask h n).j=j/\∀m,m<n->(walk mask h m).j∈js
theorem Own.free{mask:Nat}{owner:Array (Option Nat)}{hs:List Int}{js:List Nat}(O:Own mask owner hs js){j:Nat}(hj:j<=mask):isFree owner j=true↔j∉js:=by
 unfold isFree;have Wc:j<owner.size:=by rw[O.size];omega
 have e:owner.getD j (some 0)=owner[j]:=by simp[Wc]
 rw[e];constructor
 ·intro h hm
  obtain⟨i,hi,ei⟩:=a8.mp hm;have:=(O.at_ j hj i).mpr (by rw[ae hi,ei])
  rw[fA Wc]at this;injection this with this
  rw[this]at h;cases h
 ·intro h
  cases q:owner[j]with
  |none=>rfl
  |some i=>
   have:=(O.at_ j hj i).mp (by rw[fA Wc,q])
   exact absurd (aY this) h
theorem Own.nodup{mask:Nat}{owner:Array (Option Nat)}{hs:List Int}{js:List Nat}(O:Own mask owner hs js):js.Nodup:=by
 rw[bN,cD];intro i j hi hj Es e;have hm:js[j]<=mask:=O.le _ (by simp);have h1:=(O.at_ js[j] hm i).mpr (by rw[ae hi,e])
 have h2:=(O.at_ js[j] hm j).mpr (by rw[ae hj])
 rw[h1]at h2;injection h2 with h2
 injection h2 with h2
 omega
theorem Nl(mask:Nat):Own mask (Array.replicate (mask+1) none) [] []:=by
 refine⟨by simp,rfl,λj hj=>by simp at hj,λj hj i=>?_,λi h e=>by simp at e⟩;have:j<mask+1:=by omega
 simp[Array.getElem?_replicate,this]
theorem Ky{mask:Nat}(S:Small mask){owner:Array (Option Nat)}{hs:List Int}{js:List Nat}(O:Own mask owner hs js)(h:Int)(hl:hs.length<=mask):
  ∃j,layClean.free mask owner (turns mask) (bits h%(mask+1)) (bits h)=some j/\Own mask (owner.setIfInBounds j (some hs.length)) (hs++ [h]) (js++ [j]):=by
 have hx:∃e,e<=mask/\e∉js:=by
  apply bI;intro q;have nd:∀{l k:List Nat},l.Nodup->(∀x∈l,x∈k)->l.length<=k.length:=by
   intro l
   induction l with
   |nil=>intro k _ _;exact bp _
   |cons a l ih=>
    intro k hn hs;rw[bY]at hn;have h1:a∈k:=hs a ax;have h2:=ih (k:=k.erase a) hn.2 λx hx=>(jX (λ(e:x=a)=>hn.1 (by rw[<-e];exact hx))).mpr (hs x (ao _ hx))
    have h3:=kY h1;have h4:=i4 h1;simp only[aq];omega
  have:=nd (l:=List.range (mask+1)) (k:=js) kq λx hx=>by
   apply bI;intro z;exact q ⟨x,by have:=dI.mp hx;omega,z⟩
  simp at this;have:=O.len;omega
 obtain⟨e,he,vE⟩:=hx;obtain⟨k,hk,hb⟩:=qA S h he;obtain⟨n,h1,h2,_,h4⟩:=Bc (mask:=mask) owner h (turns mask) 0 k (bp _) (by unfold turns;omega) (by rw[hb];exact(O.free he).mpr vE)
 have hj:=Bv mask h n;have hjn:=(O.free hj).mp h2
 have hos:(walk mask h n).j<owner.size:=by rw[O.size];omega
 refine⟨(walk mask h n).j,h1,⟨by simp[O.size],by simp[O.len],λj hm=>?_,λj F7 i=>?_,λi h' e=>?_⟩⟩
 ·rcases br.mp hm with z|z
  ·exact O.le j z
  ·have:=aP.mp z;omega
 ·rw[Array.getElem?_setIfInBounds]
  by_cases q:(walk mask h n).j=j
  ·subst q
   rw[az rfl,az hos];constructor
   ·intro z
    injection z with z
    injection z with z
    rw[<-z,<-O.len];simp
   ·intro z
    have:i=js.length:=by
     apply bI;intro w
     by_cases w2:i<js.length
     ·rw[bq w2]at z
      exact hjn (aY z)
     ·rw[bD (by omega)]at z
      rw[jF (by simp;omega)]at z;cases z
    rw[this,O.len]
  ·rw[aw q,O.at_ j F7 i]
   constructor
   ·intro z
    have:=(aN.mp z).1
    rw[bq this];exact z
   ·intro z
    by_cases w:i<js.length
    ·rw[bq w]at z
     exact z
    ·rw[bD (by omega)]at z
     have z':=aY z;exact absurd (aP.mp z').symm q
 ·by_cases w:i<hs.length
  ·rw[bq w]at e
   obtain⟨n',j,r1,r2,r3⟩:=O.reach i h' e;exact⟨n',j,by rw[bq (aN.mp r1).1];exact r1,r2,λm hm=>cI _ (r3 m hm)⟩
  ·have hi:i=hs.length:=by
    have:=(aN.mp e).1
    simp at this;omega
   subst hi;rw[bD (ay _)]at e;simp at e;subst e;refine⟨n,_,by rw[<-O.len];simp,rfl,λm hm=>cI _ ?_⟩;have:=h4 m (bp _) hm;apply bI;intro z;rw[(O.free (Bv mask h m)).mpr z]at this
   cases this
theorem Eg{mask:Nat}(S:Small mask):∀(rest:List Int)(owner:Array (Option Nat))(hs:List Int)(js:List Nat),Own mask owner hs js->hs.length+rest.length<=mask+1->
  ∃BW VW,rest.foldl (λ(acc:Option (Array (Option Nat)×Nat))h=>do
   let(owner,k) <-acc
   let j <-layClean.free mask owner (turns mask) (bits h%(mask+1)) (bits h)
   pure (owner.setIfInBounds j (some k),k+1)) (some (owner,hs.length))=some (BW,(hs++rest).length)/\Own mask BW (hs++rest) VW
 | [],owner,hs,js,O,_=>⟨owner,js,by simp,by simpa using O⟩
 |h::rest,owner,hs,js,O,hl=>by
  obtain⟨j,e,O'⟩:=Ky S O h (by simp at hl;omega);obtain⟨BW,VW,e',O''⟩:=Eg S rest _ _ _ O' (by simp at hl⊢;omega);refine⟨BW,VW,?_,by simpa using O''⟩;rw[dh];have:((some (owner,hs.length):Option (Array (Option Nat)×Nat))>>=λ(x:Array (Option Nat)×Nat)=>(layClean.free mask x.1 (turns mask) (bits h%(mask+1)) (bits h))>>=λj=>pure (x.1.setIfInBounds j (some x.2),x.2+1))=some (owner.setIfInBounds j (some hs.length),(hs++ [h]).length):=by
   show(layClean.free mask owner (turns mask) (bits h%(mask+1)) (bits h)>>=λj=>pure (owner.setIfInBounds j (some hs.length),hs.length+1))=_;rw[e];simp
  have e2:hs++h::rest=(hs++ [h])++rest:=by simp
  rw[e2,<-e'];congr 1
theorem Eh{mask:Nat}(S:Small mask)(finger moves:Nat)(led plain:Bool)(hashes:Array Int)(hl:hashes.size<=mask):
  ∃t order,laid mask finger moves led plain hashes=some (t,order)/\t.mask=mask/\t.plain=plain/\t.led=led/\t.dummies=#[]/\t.place.size=hashes.size/\order.size=hashes.size/\
   (∀i,i∈order.toList↔i<hashes.size)/\Tab t (order.toList.map λi=>hashes.toList.getD i 0):=by
 obtain⟨owner,js,e,O⟩:=Eg S hashes.toList _ [] [] (Nl mask) (by simp;omega);simp only[List.nil_append]at e O;have e1:layClean mask hashes=some owner:=by
  unfold layClean;rw[<-Array.foldl_toList];have e':=e;simp only[bR]at e';rw[show(hashes.toList.foldl (λacc h=>(do
   let(owner,k) <-acc
   let j <-layClean.free mask owner (turns mask) (bits h%(mask+1)) (bits h)
   pure (owner.setIfInBounds j (some k),k+1):Option (Array (Option Nat)×Nat))) (some (Array.replicate (mask+1) none,0)))=some (owner,hashes.toList.length)from e']
  rfl
 have Tt:∀j,j<=mask->owner.getD j none=owner[j]?.getD none:=λj _=>by simp[jH]
 have wL:∀p:Nat×Nat,p∈(List.range (mask+1)).filterMap (λj=>(owner.getD j none).map (j, ·))↔js[p.2]?=some p.1:=λp=>by
  rw[lO];constructor
  ·rintro⟨j,hj,q⟩
   have F7:j<=mask:=by have:=dI.mp hj;omega
   rw[Tt j F7]at q;obtain⟨i,hi,rfl⟩:=bO.mp q;refine(O.at_ j F7 i).mp ?_
   cases z:owner[j]? with
   |none=>rw[z]at hi;cases hi
   |some w=>rw[z]at hi;simp at hi;rw[hi]
  ·intro q
   have F7:=O.le p.1 (aY q);refine⟨p.1,dI.mpr (by omega),?_⟩;rw[Tt p.1 F7,(O.at_ p.1 F7 p.2).mpr q]
   rfl
 have E8:((List.range (mask+1)).filterMap (λj=>(owner.getD j none).map (j, ·))).Pairwise (λa b=>a.1<b.1):=by
  rw[List.pairwise_filterMap];refine List.pairwise_lt_range.imp λ{a b}Gd x hx y hy=>?_
  obtain⟨i,_,rfl⟩:=bO.mp hx;obtain⟨i',_,rfl⟩:=bO.mp hy;exact Gd
 generalize hL:(List.range (mask+1)).filterMap (λj=>(owner.getD j none).map (j, ·))=L at wL E8
 have nd:∀{α:Type} [DecidableEq α]{l k:List α},l.Nodup->(∀x∈l,x∈k)->l.length<=k.length:=by
  intro α _ l
  induction l with
  |nil=>intro k _ _;exact bp _
  |cons a l ih=>
   intro k hn hs;rw[bY]at hn;have h1:a∈k:=hs a ax;have h2:=ih (k:=k.erase a) hn.2 λx hx=>(jX (λ(e:x=a)=>hn.1 (by rw[<-e];exact hx))).mpr (hs x (ao _ hx))
   have h3:=kY h1;have h4:=i4 h1;simp only[aq];omega
 have n1:(L.map (·.1)).Nodup:=by
  rw[bN,cy];exact E8.imp λh=>a0 h
 have hlen:L.length=js.length:=by
  apply Nat.le_antisymm
  ·have:=nd n1 (k:=js) λx hx=>by
    obtain⟨p,hp,rfl⟩:=aV.mp hx;exact aY ((wL p).mp hp)
   simpa using this
  ·have:=nd O.nodup (k:=L.map (·.1)) λx hx=>by
    obtain⟨i,hi,q⟩:=a8.mp hx;exact aV.mpr ⟨(x,i),(wL _).mpr (by rw[ae hi,q]),rfl⟩
   simpa using this
 have hjs:js.length=hashes.size:=by rw[O.len];simp
 refine⟨{mask,place:=(L.map (·.1)).toArray,dummies:=#[],finger,led,moves,plain},(L.map (·.2)).toArray,?_,rfl,rfl,rfl,rfl,?_,?_,λi=>?_,⟨⟨?_,rfl,λi hi=>?_⟩,S,?_,λq hq=>?_⟩⟩
 ·unfold laid
  rw[e1,<-hL];rfl
 ·simp[hlen,hjs]
 ·simp[hlen,hjs]
 ·simp only[aV]
  constructor
  ·rintro⟨p,hp,rfl⟩
   have:=(aN.mp ((wL p).mp hp)).1
   omega
  ·intro hi
   have uU:i<js.length:=(by omega);exact⟨(js[i],i),(wL _).mpr (by rw[ae uU]),rfl⟩
 ·rw[sk]
  show(L.map (·.1)).Pairwise _
  rw[cy];exact E8
 ·have hm:((L.map (·.1)).toArray)[i]∈L.map (·.1):=by
   rw[List.getElem_toArray];exact bL _
  obtain⟨p,hp,ep⟩:=aV.mp hm;show((L.map (·.1)).toArray)[i]<=mask
  rw[<-ep];exact O.le _ (aY ((wL p).mp hp))
 ·simp
 ·have hq:q∈(L.map (·.1)).zip ((L.map (·.2)).map λi=>hashes.toList.getD i 0):=hq
  rw[bC,List.zip_map']at hq;obtain⟨p,hp,rfl⟩:=aV.mp hq;have j7:=(wL p).mp hp
  have hi:=(aN.mp j7).1
  have Cy:p.2<hashes.toList.length:=by rw[<-O.len];exact hi
  obtain⟨n,j,r1,r2,r3⟩:=O.reach p.2 _ (ae Cy);have ej:j=p.1:=by rw[j7]at r1;injection r1 with r1;exact r1.symm
  have eh:hashes.toList.getD p.2 0=hashes.toList[p.2]:=by rw[aE,ae Cy];rfl
  refine⟨n,?_,λm hm=>?_⟩
  ·show(walk mask (hashes.toList.getD p.2 0) n).j=p.1
   rw[eh,r2,ej]
  ·show(walk mask (hashes.toList.getD p.2 0) m).j∈L.map (·.1)
   rw[eh];obtain⟨i,uU,ei⟩:=a8.mp (r3 m hm);exact aV.mpr ⟨(_,i),(wL _).mpr (by rw[ae uU,ei]),rfl⟩
end PbSet
namespace PbSet
open PySem PySem.Spec PyProof.Rows
section
variable{prog:Program}{w:World}{K:Type} [DecidableEq K]{knd:KeyKind prog w K}{A:Around}{E:fw}{s:Shared}
def CA(es:Array (Int×Value))(i:Nat):Int:=(es[i]?.map (·.1)).getD 0
theorem HZ(a:Addr)(x:Value)(h:Int)(add:Bool)(fu:Nat)(st:Option SetTable.Probe):setSearchFrom a x h add (fu+1) st=(do
  let(xs,_,tb) <-setState a
  if tb.gaveWay then unsupported "set:on-a-table-that-gave-way"
  let some mt:=tb.probe (CA xs) h (st.getD (tb.probeStart h))|unsupported "internal:set-table-without-an-empty-slot"
  match mt with
  | .empty j dm=>
   match dm with
   |none=>return .free j false
   |some d=>
    if add&&tb.slot d != .dummy then rule "set.search.the-dummy-was-taken";return <-setSearchFrom a x h add fu none
    return .free d true
  | .candidate j i nx=>
   if !tb.led then
    if<-searchCouldBeSeen x ((xs.filter (·.1==h)).toList.map (·.2))then unsupported "set:the-search-would-show-the-table"
   let some (_,y):=xs[i]?|unsupported "internal:set-entry"
   let eql <-holding [y] (eqBool y x)
   let(xs',_,tb') <-setState a
   if add&&eql then return .there none
   let some sm:=tb'.sameMemory tb.moves tb.mask|unsupported "set.changed-during-lookup:is-the-new-block-at-the-old-address"
   let stl <-match(if sm then tb'.slot j else .empty)with
    | .live i'=>match xs'[i']? with
     |some (_,y')=>do pure (if<-isSame y' y then some i' else none)
     |none=>pure none
    |_=>pure none
   match stl with
   |none=>rule "set.search.anew";setSearchFrom a x h add fu none
   |some i'=>if eql then return .there (some i')else setSearchFrom a x h add fu (some nx)):=rfl
def Ent(knd:KeyKind prog w K)(h:Heap)(e:Int×Value)(k:List K):Prop:=∃a,e.2=.ref a/\IsTupleKey knd h k a/\e.1=tupleKeyHash knd k
structure uS(knd:KeyKind prog w K)(h:Heap)(es:List (Int×Value))(ks:List (List K)):Prop where
 ex:∀e∈es,∃k∈ks,Ent knd h e k
 all:∀k∈ks,∃e∈es,Ent knd h e k
 nd:ks.Nodup
 len:es.length=ks.length
theorem fits_of{t:SetTable}{es:Array (Int×Value)}(B:Tab t (es.toList.map (·.1)))(hm:es.size<=t.mask):t.fits es.size=true:=by
 have h1:t.place.size=es.size:=by
  have:=B.size;simpa using this
 unfold SetTable.fits SetTable.fill;rw[B.ok.VF,h1];simp;exact hm
theorem DZ{k:List K}{a:Addr}{Q:Bool->Shared->Prop}(hk:IsTupleKey knd s.heap k a)(h:Q false s):wpAny (model prog w) A (ofAClassStatement 8 (.ref a)) Q E s:=by
 have hT:=hk.typeIs;obtain⟨o,items,n,ho,_,hd,hi⟩:=hk;unfold ofAClassStatement;refine aa (vV hT ?_);show wpAny _ _ (pure true>>=_) _ _ _;refine aa (aj ?_);simp only[cN,aX,cE];refine aa (eM ho hd ?_);refine aa ?_;show wpAny _ _ (forIn items _ _) _ _ s;rw[<-lP];refine je _ (λrest r s'=>r.1=none/\s'=s/\∀v∈rest,carriedByValue v=true) _ ?_ ?_ _ _ ⟨rfl,rfl,hi.byValue⟩
 ·rintro v rest r s' ⟨hr,rfl,jy⟩
  have hv:ofAClassStatement 7 v=pure false:=by
   have:=jy v ax;cases v<;>first|rfl|(simp[carriedByValue]at this)
  rw[hv];refine aa (aj ?_);simp only[aX,cE];exact aj ⟨rfl,rfl,λu F5=>jy u (ao _ F5)⟩
 ·rintro⟨r1,r2⟩ s' ⟨hr,rfl,_⟩
  simp only at hr;subst hr;exact aj h
theorem O9{k:List K}{a:Addr}{ys:List Value}{Q:Bool->Shared->Prop}(hk:IsTupleKey knd s.heap k a)(hy:∀y∈ys,∃b k',y=.ref b/\IsTupleKey knd s.heap k' b)(h:Q false s):
  wpAny (model prog w) A (searchCouldBeSeen (.ref a) ys) Q E s:=by
 unfold searchCouldBeSeen;refine aa ?_;refine je _ (λrest r s'=>r.1=none/\s'=s/\∀v∈rest,v∈ys) _ ?_ ?_ _ _ ⟨rfl,rfl,λv hv=>hv⟩
 ·rintro v rest r s' ⟨hr,rfl,jy⟩
  obtain⟨b,k',rfl,hb⟩:=hy v (jy v ax);have rst:∀u∈rest,u∈ys:=λu hu=>jy u (ao _ hu)
  dsimp only;split
  ·exact aj ⟨rfl,rfl,rst⟩
  ·refine aa (wpAny_eqIsQuiet_tuple hk ?_)
   simp only[cN,aX,cE];refine aa (wpAny_eqIsQuiet_tuple hb ?_);simp only[cN,aX,cE];refine aa (DZ hk ?_);simp only[aX,cE];refine aa (DZ hb ?_);simp only[aX,cE];exact aj ⟨rfl,rfl,rst⟩
 ·rintro⟨r1,r2⟩ s' ⟨hr,rfl,_⟩
  simp only at hr;subst hr;exact aj h
theorem Qv{β:Type}{c:Bool}{M:Sem Bool}{U T:Sem β}{Q:β->Shared->Prop}(hM:∀Q':Bool->Shared->Prop,Q' false s->wpAny (model prog w) A M Q' E s)(hT:wpAny (model prog w) A T Q E s):
  wpAny (model prog w) A (if(!c)=true then(do
   let b <-M
   if b=true then U else T)else T) Q E s:=by
 split
 ·refine aa (hM _ ?_)
  simp only[aX,cE];exact hT
 ·exact hT
theorem MY(t:SetTable):t.sameMemory t.moves t.mask=some true:=by
 unfold SetTable.sameMemory;simp
theorem NO{t:SetTable}(S:Small t.mask):t.gaveWay=false:=by
 unfold SetTable.gaveWay;rcases S with e|e<;>rw[e]<;>rfl
theorem IV{es:Array (Int×Value)}{i:Nat}{e:Int×Value}(h:es.toList[i]?=some e):CA es i=e.1:=by
 unfold CA;rw[<-dA,h];rfl
theorem FH{S:Addr}{o:Obj}{es:Array (Int×Value)}{ep:Nat}{t:SetTable}{ks:List (List K)}{k:List K}{a:Addr}{Q:SetFound->Shared->Prop}
  (ho:s.heap.get? S=some o)(hd:o.data=.set es ep t)(B:Tab t (es.toList.map (·.1)))(hm:es.size<=t.mask)(N:uS knd s.heap es.toList ks)(hk:IsTupleKey knd s.heap k a)(hu:A.units<cLine)
  (h1:k∈ks->Q (.there none) s)(h2:k∉ks->∀m,t.slot (walk t.mask (tupleKeyHash knd k) m).j=.empty->(∀n,n<m->t.slot (walk t.mask (tupleKeyHash knd k) n).j≠ .empty)->Q (.free (walk t.mask (tupleKeyHash knd k) m).j false) s):
  wpAny (model prog w) A (setSearch S (.ref a) (tupleKeyHash knd k) (adding:=true)) Q E s:=by
 have hf:=fits_of B hm;have hsz:t.place.toList.length=es.toList.length:=by have:=B.size;simpa using this
 obtain⟨fe,WN,WJ⟩:=Bd B.ok (by have:=hsz;simp at this;omega);obtain⟨L,hL,WZ⟩:=ym B.small (tupleKeyHash knd k) WN;have hN:t.slot (walk t.mask (tupleKeyHash knd k) L).j=.empty:=by rw[WZ];exact WJ
 have hL2:L<100000:=by
  have:SetTable.turns t.mask<=46:=by rcases B.small with e|e<;>rw[e]<;>decide
  omega
 have go:∀(d n fu:Nat)(st:Option SetTable.Probe),L-n=d->n<=L->d<fu->st.getD (t.probeStart (tupleKeyHash knd k))=fY (walk t.mask (tupleKeyHash knd k) n)->
   (∀m,m<n->t.slot (walk t.mask (tupleKeyHash knd k) m).j≠ .empty)->
   (∀(i:Nat)(e:Int×Value),es.toList[i]?=some e->Ent knd s.heap e k->∃n0,n<=n0/\t.slot (walk t.mask (tupleKeyHash knd k) n0).j=.live i/\∀m,m<n0->t.slot (walk t.mask (tupleKeyHash knd k) m).j≠ .empty)->
   wpAny (model prog w) A (setSearchFrom S (.ref a) (tupleKeyHash knd k) true fu st) Q E s:=by
  intro d
  induction d using Nat.strongRecOn with
  |_ d ih=>
   intro n fu st Cz hn hfu Em Mh xG;obtain⟨fu,rfl⟩:∃f',fu=f'+1:=⟨fu-1,by omega⟩;rw[HZ];refine aa (cc ho hd hf ?_);dsimp only;rw[NO B.small,Em];simp only[aX,cE];obtain⟨m,m1,m2,m3,m4⟩:=wF B.ok (CA es) (tupleKeyHash knd k) hN hn hL;have pass:∀(i:Nat)(e:Int×Value),es.toList[i]?=some e->Ent knd s.heap e k->∃n0,m<=n0/\t.slot (walk t.mask (tupleKeyHash knd k) n0).j=.live i/\∀m,m<n0->t.slot (walk t.mask (tupleKeyHash knd k) m).j≠ .empty:=λi e OJ IS=>by
    obtain⟨n0,z1,z2,z3⟩:=xG i e OJ IS;refine⟨n0,?_,z2,z3⟩;apply bI;intro z;obtain⟨i',y1,y2⟩:=m3 n0 z1 (by omega);rw[z2]at y1;injection y1 with y1
    subst y1;obtain⟨_,_,_,eh⟩:=IS;exact y2 (by rw[IV OJ,eh])
   rcases m4 with⟨q1,q2⟩|⟨i,q1,q2,q3,q4⟩
   ·rw[q2]
    dsimp only;refine aj (h2 (λOI=>?_) m q1 λn' UH=>?_)
    ·obtain⟨e,he,IS⟩:=N.all k OI
     obtain⟨i,hi,ei⟩:=a8.mp he;obtain⟨n0,z1,z2,z3⟩:=pass i e (by rw[ae hi,ei]) IS
     by_cases z:m=n0
     ·rw[<-z,q1]at z2;cases z2
     ·exact z3 m (by omega) q1
    ·by_cases z:n'<n
     ·exact Mh n' z
     ·obtain⟨i',y1,_⟩:=m3 n' (by omega) UH
      rw[y1];exact λw=>nomatch w
   ·rw[q4]
    dsimp only;have UL:i<t.place.size:=by
     rcases nF B.ok (walk t.mask (tupleKeyHash knd k) m).j with⟨z,_⟩|⟨i',uU,_,z⟩
     ·rw[z]at q2;cases q2
     ·rw[z]at q2;injection q2 with q2;rw[<-q2];exact uU
    have Tr:i<es.toList.length:=by rw[<-hsz];simpa using UL
    have hia:i<es.size:=(by simpa using Tr);have OJ:es.toList[i]?=some es.toList[i]:=ae Tr;obtain⟨ki,hki,b,eb,tb,hb⟩:=N.ex es.toList[i] (bL Tr);have hxi:es[i]?=some (es.toList[i].1,Value.ref b):=by
     rw[<-dA,OJ,<-eb]
    rw[hxi];refine Qv (λQ' hQ=>O9 hk (λy hy=>?_) hQ) ?_
    ·obtain⟨e,he,rfl⟩:=aV.mp hy
     have Lf:e∈es.toList:=by
      rw[Array.toList_filter]at he;exact(cp.mp he).1
     obtain⟨k',_,b',e1,e2,_⟩:=N.ex e Lf;exact⟨b',k',e1,e2⟩
    dsimp only;refine aa (dX (xj hu tb hk ?_));refine aa (cc ho hd hf ?_);dsimp only
    by_cases UJ:ki=k
    ·rw[aJ UJ]
     simp only[Bool.and_self,dD];exact aj (h1 (UJ▸hki))
    ·rw[aD UJ]
     simp only[C7,aX,cE];rw[MY];dsimp only;simp only[dD];rw[q2];dsimp only;rw[hxi];dsimp only;refine aa (wpAny_isSame_ref_self ?_);refine aa (aj ?_);simp only[dD];refine ih (L-(m+1)) (by omega) (m+1) fu (some _) rfl (by omega) (by omega) rfl (λn' UH=>?_) λi' e' Ld OK=>?_
     ·by_cases z:n'<n
      ·exact Mh n' z
      ·by_cases z2:n'=m
       ·rw[z2,q2];exact λw=>nomatch w
       ·obtain⟨i',y1,_⟩:=m3 n' (by omega) (by omega)
        rw[y1];exact λw=>nomatch w
     ·obtain⟨n0,z1,z2,z3⟩:=pass i' e' Ld OK
      refine⟨n0,?_,z2,z3⟩;apply bI;intro z;have:n0=m:=by omega
      subst this;rw[z2]at q2;injection q2 with q2
      subst q2;rw[OJ]at Ld;injection Ld with Ld
      subst Ld;obtain⟨a2,x1,x2,_⟩:=OK;rw[eb]at x1;injection x1 with x1
      subst x1;exact UJ (tb.inj x2)
 refine go (L-0) 0 100000 none rfl (bp _) (by omega) rfl (λm hm=>by omega) λi e OJ IS=>?_
 have hi:i<es.toList.length:=(aN.mp OJ).1
 have UL:i<t.place.toList.length:=by rw[hsz];exact hi
 have hq:(t.place.toList.zip (es.toList.map (·.1)))[i]?=some (t.place.toList[i],e.1):=by
  rw[uT];exact⟨ae UL,by rw[aW,OJ];rfl⟩
 obtain⟨nr,r1,r2⟩:=B.reach _ (aY hq);obtain⟨_,_,_,eh⟩:=IS;rw[eh]at r1 r2;refine⟨nr,bp _,?_,λm hm z=>(sg B.ok _).mp z (r2 m hm)⟩
 rw[r1];have:=u5 B.ok (i:=i) (by simpa using UL);simpa using this
abbrev d5(w:World):Bool:=w.params.followText "set-order"
def Bt(w:World)(t:SetTable):Prop:=d5 w=false->t.led=true/\t.plain=true
def Hv(knd:KeyKind prog w K):Prop:=∀k v,knd.is k v=true->hashByValue 7 v=pure true
def xg(knd:KeyKind prog w K)(V:Value->Prop)(h:Heap)(S:Addr)(ks:List (List K)):Prop:=
 ∃o es ep t,h.get? S=some o/\o.ExactSet/\o.data=.set es ep t/\Tab t (es.toList.map (·.1))/\uS knd h es.toList ks/\(ks.length<=4\/t.mask=31)/\(∀e∈es.toList,V e.2)/\Bt w t
theorem He{h h':Heap}{ks:List K}{a d:Addr}{o:Obj}{es ep t}(x:IsTupleKey knd h ks a)(ho:h.get? d=some o)(hd:o.data=.set es ep t)(hs:Heap.SameBut d h h'):IsTupleKey knd h' ks a:=by
 obtain⟨o',items,n,qM,hc,Cz,hi⟩:=x;have vE:a≠d:=by
  rintro rfl;obtain rfl:o'=o:=bw (qM.symm.trans ho);rw[hd]at Cz;exact nomatch Cz
 exact⟨o',items,n,(hs.2 a vE).trans qM,hc,Cz,hi⟩
theorem uS.but{h h':Heap}{d:Addr}{o:Obj}{es ep t}{l:List (Int×Value)}{ks:List (List K)}(N:uS knd h l ks)(ho:h.get? d=some o)(hd:o.data=.set es ep t)(hs:Heap.SameBut d h h'):uS knd h' l ks:=by
 refine⟨λe he=>?_,λk hk=>?_,N.nd,N.len⟩
 ·obtain⟨k,hk,a,h1,h2,h3⟩:=N.ex e he
  exact⟨k,hk,a,h1,He h2 ho hd hs,h3⟩
 ·obtain⟨e,he,a,h1,h2,h3⟩:=N.all k hk
  exact⟨e,he,a,h1,He h2 ho hd hs,h3⟩
theorem K0(hv:Hv knd){x:List K}{vs:List Value}(hx:ItemsAre knd x vs):∀v∈vs,hashByValue 7 v=pure true:=by
 induction hx with
 |nil=>intro v h;simp at h
 |cons h1 _ ih=>
  intro v h;rcases aB.mp h with rfl|h
  ·exact hv _ _ h1
  ·exact ih v h
theorem QY(hv:Hv knd){k:List K}{a:Addr}{Q:Bool->Shared->Prop}(hk:IsTupleKey knd s.heap k a)(h:Q true s):wpAny (model prog w) A (hashByValue 8 (.ref a)) Q E s:=by
 have hT:=hk.typeIs;obtain⟨o,items,n,ho,_,hd,hi⟩:=hk;unfold hashByValue;refine aa (iD hT F.slot_tuple_hash.lookup ?_);dsimp only;refine aa (eM ho hd ?_);refine aa ?_;show wpAny _ _ (forIn items _ _) _ _ s;rw[<-lP];refine je _ (λrest r s'=>r.1=none/\s'=s/\∀v∈rest,hashByValue 7 v=pure true) _ ?_ ?_ _ _ ⟨rfl,rfl,K0 hv hi⟩
 ·rintro v rest r s' ⟨hr,rfl,jy⟩
  rw[jy v ax];refine aa (aj ?_);simp only[cN,aX,cE];exact aj ⟨rfl,rfl,λu F5=>jy u (ao _ F5)⟩
 ·rintro⟨r1,r2⟩ s' ⟨hr,rfl,_⟩
  simp only at hr;subst hr;exact aj h
theorem uS.KW{h:Heap}{l l':List (Int×Value)}{ks:List (List K)}(N:uS knd h l ks)(hm:∀e,e∈l'↔e∈l)(hl:l'.length=l.length):uS knd h l' ks:=
 ⟨λe he=>N.ex e ((hm e).mp he),λk hk=>let⟨e,he,q⟩:=N.all k hk;⟨e,(hm e).mpr he,q⟩,N.nd,hl.trans N.len⟩
theorem uS.more{h:Heap}{l:List (Int×Value)}{ks:List (List K)}(N:uS knd h l ks){k:List K}{a:Addr}(hk:IsTupleKey knd h k a)(hn:k∉ks):uS knd h ((tupleKeyHash knd k,Value.ref a)::l) (k::ks):=by
 refine⟨λe he=>?_,λk' F6=>?_,bY.mpr ⟨hn,N.nd⟩,by simp[N.len]⟩
 ·rcases aB.mp he with e1|e1
  ·exact⟨k,ax,a,by rw[e1],hk,by rw[e1]⟩
  ·obtain⟨k',h1,h2⟩:=N.ex e e1
   exact⟨k',ao _ h1,h2⟩
 ·rcases aB.mp F6 with e1|e1
  ·exact⟨_,ax,a,rfl,by rw[e1];exact hk,by rw[e1]⟩
  ·obtain⟨e,h1,h2⟩:=N.all k' e1
   exact⟨e,ao _ h1,h2⟩
theorem Cp{α:Type}(x:α)(p:Nat)(l:List α)(e:α):e∈l.take p++x::l.drop p↔e∈x::l:=by
 conv=>rhs;rw[<-jD p l]
 simp only[br,aB];constructor
 ·rintro(h|h|h)
  ·exact .inr (.inl h)
  ·exact .inl h
  ·exact .inr (.inr h)
 ·rintro(h|h|h)
  ·exact .inr (.inl h)
  ·exact .inl h
  ·exact .inr (.inr h)
theorem stored{h:Heap}{a:Addr}{o:Obj}{es:Array (Int×Value)}{ep:Nat}{t:SetTable}(ho:h.get? a=some o)(hd:o.data=.set es ep t)(Hm:Array (Int×Value))(t':SetTable):
  (h.update a (Obj.putSet Hm t')).get? a=some {o with data:=.set Hm (ep+1) t'}:=by
 have:=eI (Obj.putSet Hm t') ho (by rw[putSet_of Hm t' hd];rfl);rw[putSet_of Hm t' hd]at this;exact this
theorem Gj{α β:Type}{f:α->Option β}{g:α->β}:∀{l:List α},(∀x∈l,f x=some (g x))->l.filterMap f=l.map g
 | [],_=>rfl
 |x::l,h=>by
  rw[iG,h x ax,aT,Gj λy hy=>h y (ao _ hy)]
theorem Ke(a:Addr)(n:Nat):setRelay a n=(do
  let(xs,_,tb) <-setState a
  if SetTable.sizeAbove n>sizeLine then unsupported "set:memory"
  let(ys,tb2) <-(do
   let some (RX,od):=tb.relaid (xs.map (·.1)) n|unsupported "internal:set-table-without-room"
   let ys:=od.filterMap (xs[·]?)
   if ys.size != xs.size then unsupported "internal:set-table-lost-an-element"
   pure (ys,RX):Sem (Array (Int×Value)×SetTable))
  storeSet a ys tb2):=rfl
theorem L7(a:Addr)(x:Value)(h:Int)(fu:Nat):setAddHashedIn a x h (fu+1)=(do
  let(xs0,_,tb0) <-setState a
  if byScan x xs0 then
   match<-setAddByScan a x h xs0 tb0 with
   |some ad=>return ad
   |none=>return <-setAddHashedIn a x h fu
  let .free sl wd <-setSearch a x h (adding:=true)|return false
  let(xs,_,tb) <-setState a
  let(tb,q):=tb.put sl
  let bv <-if tb.plain then hashByValue 8 x else pure true
  let tb:=if bv then tb else{tb with plain:=false}
  storeSet a (SetTable.insertAt xs q (h,x)) tb
  if !wd&&tb.tooFull then setRelay a (SetTable.grown (xs.size+1))
  return true):=rfl
theorem Ih{S:Addr}{o:Obj}{es:Array (Int×Value)}{ep:Nat}{t:SetTable}{ks:List (List K)}{Q:Unit->Shared->Prop}
  (ho:s.heap.get? S=some o)(hx:o.ExactSet)(hd:o.data=.set es ep t)(B:Tab t (es.toList.map (·.1)))(N:uS knd s.heap es.toList ks)(h5:es.size=5)(hm:t.mask=7){V:Value->Prop}(hV:∀e∈es.toList,V e.2)(hM:Bt w t)
  (h:∀h',Heap.SameBut S s.heap h'->xg knd V h' S ks->Q () {s with heap:=h'}):wpAny (model prog w) A (setRelay S (SetTable.grown 5)) Q E s:=by
 have hf:=fits_of B (by rw[h5,hm];decide);rw[Ke];refine aa (cc ho hd hf ?_);dsimp only;rw[aw (by show¬SetTable.sizeAbove (SetTable.grown 5)>sizeLine;rw[bo];decide)];obtain⟨t',order,e,em,eP,eL,ed,wN,RP,gv,B'⟩:=Eh (mask:=31) (.inr rfl) t.finger (t.movedTo 31) t.led t.plain (es.map (·.1)) (by rw[C8,h5];decide);have er:t.relaid (es.map (·.1)) (SetTable.grown 5)=some (t',order):=e;have sz:(es.map (·.1)).size=5:=by rw[C8,h5]
 rw[sz]at RP gv;have hl:(order.filterMap (es[·]?)).toList=order.toList.map λi=>es.toList.getD i (0,.none):=by
  rw[Array.toList_filterMap];refine Gj λi hi=>?_
  have Ts:=(gv i).mp hi
  have:i<es.toList.length:=by simp;omega
  rw[<-dA,aE,ae this];rfl
 have hz:(order.filterMap (es[·]?)).size=es.size:=by
  rw[<-bh,hl,ab,bh,RP,h5]
 have UI:∀x,x∈(order.filterMap (es[·]?)).toList↔x∈es.toList:=λx=>by
  rw[hl,aV];constructor
  ·rintro⟨i,hi,rfl⟩
   have Ts:=(gv i).mp hi
   have:i<es.toList.length:=by simp;omega
   rw[aE,ae this];exact bL _
  ·intro V6
   obtain⟨i,hi,ei⟩:=a8.mp V6;refine⟨i,(gv i).mpr (by simp at hi;omega),?_⟩
   rw[aE,ae hi,ei];rfl
 have hh:(order.filterMap (es[·]?)).toList.map (·.1)=order.toList.map λi=>(es.map (·.1)).toList.getD i 0:=by
  rw[hl,bC];refine gb λi hi=>?_
  have Ts:=(gv i).mp hi
  have:i<es.toList.length:=by simp;omega
  show(es.toList.getD i (0,.none)).1=_
  rw[oA,aE,aE,aW,ae this];rfl
 rw[er];dsimp only;rw[hz];simp only[bne_self_eq_false,aX,cE];refine aa (aj ?_);dsimp only;refine zP ho hd ?_ (by rw[hz,h5,bo];decide);have sb:=eC s.heap S (Obj.putSet (order.filterMap (es[·]?)) t');refine h _ sb ⟨_,_,_,_,stored ho hd _ _,hx,rfl,?_,(N.KW UI (by rw[bh,bh];exact hz)).but ho hd sb,.inr em,λe he=>hV e ((UI e).mp he),λz=>⟨by rw[eL];exact(hM z).1,by rw[eP];exact(hM z).2⟩⟩
 rw[hh];exact B'
theorem N4(hv:Hv knd){S:Addr}{ks:List (List K)}{k:List K}{a:Addr}{Q:Bool->Shared->Prop}{V:Value->Prop}(hS:xg knd V s.heap S ks)(hl:ks.length<12)(hk:IsTupleKey knd s.heap k a)(hVa:V (.ref a))(hu:A.units<cLine)
  (h1:k∈ks->∀b,Q b s)(h2:k∉ks->∀h' b,Heap.SameBut S s.heap h'->xg knd V h' S (k::ks)->Q b {s with heap:=h'}):
  wpAny (model prog w) A (setAddHashed S (.ref a) (tupleKeyHash knd k)) Q E s:=by
 obtain⟨o,es,ep,t,ho,hx,hd,B,N,K9,hV,hM⟩:=hS;have hlen:es.size=ks.length:=by have:=N.len;simpa using this
 have hm:es.size<=t.mask:=by
  rcases K9 with z|z
  ·have:7<=t.mask:=by rcases B.small with e|e<;>rw[e]<;>decide
   omega
  ·rw[z];omega
 have hf:=fits_of B hm;unfold setAddHashed;refine dX ?_;rw[L7];refine aa (cc ho hd hf ?_);dsimp only;have hb:byScan (.ref a) es=false:=by unfold byScan;simp[Value.scannable]
 rw[hb];simp only[aX,cE];refine aa (FH ho hd B hm N hk hu (λz=>?_) λz m q1 q2=>?_)
 ·dsimp only
  exact aj (h1 z false)
 ·dsimp only
  refine aa (cc ho hd hf ?_);dsimp only;obtain⟨p,e1,e2,B',em,JK,Dg,Gn,Q6⟩:=GV B (tupleKeyHash knd k) q1 q2;generalize t.put (walk t.mask (tupleKeyHash knd k) m).j=tp at e1 B' em JK Dg Gn Q6
  obtain⟨t1,p1⟩:=tp;dsimp only at e1 B' em JK Dg Gn Q6⊢;subst e1;have hp:p1<=es.size:=by simpa using e2
  have Az:(SetTable.insertAt es p1 (tupleKeyHash knd k,Value.ref a)).toList=es.toList.take p1++(tupleKeyHash knd k,Value.ref a)::es.toList.drop p1:=mF _ _ _ hp
  have F8:(SetTable.insertAt es p1 (tupleKeyHash knd k,Value.ref a)).size=es.size+1:=by
   rw[<-bh,Az];simp;omega
  have RN:Tab t1 ((SetTable.insertAt es p1 (tupleKeyHash knd k,Value.ref a)).toList.map (·.1)):=by
   rw[Az,aZ,aT,Fg,Fh];exact B'
  have TL:uS knd s.heap (SetTable.insertAt es p1 (tupleKeyHash knd k,Value.ref a)).toList (k::ks):=
   (N.more hk z).KW (λe=>by rw[Az];exact Cp _ _ _ _) (by rw[Az];simp;omega)
  have hV1:∀e∈(SetTable.insertAt es p1 (tupleKeyHash knd k,Value.ref a)).toList,V e.2:=λe he=>by
   rw[Az]at he;rcases aB.mp ((Cp _ _ _ _).mp he)with q|q
   ·rw[q];exact hVa
   ·exact hV e q
  have RM:Bt w t1:=λz=>⟨by rw[Gn];exact(hM z).1,by rw[Dg];exact(hM z).2⟩
  have fin:wpAny (model prog w) A (do
    storeSet S (SetTable.insertAt es p1 (tupleKeyHash knd k,Value.ref a)) t1
    if(!false&&t1.tooFull)=true then do
     setRelay S (SetTable.grown (es.size+1))
     pure true
    else pure true) Q E s:=by
   refine aa (zP ho hd ?_ (by rw[F8,bo];omega));have sb:=eC s.heap S (Obj.putSet (SetTable.insertAt es p1 (tupleKeyHash knd k,Value.ref a)) t1);have qM:=stored ho hd (SetTable.insertAt es p1 (tupleKeyHash knd k,Value.ref a)) t1;have UR:=TL.but ho hd sb;have WL:t1.tooFull=decide ((es.size+1)*5>=t.mask*3):=by
    unfold SetTable.tooFull SetTable.fill;show decide ((t1.place.size+t1.dummies.size)*5>=t1.mask*3)=_;rw[Q6,em,JK];have:t.place.size=es.size:=by have:=B.size;simpa using this
    rw[this];rfl
   rw[WL]
   by_cases pY:(es.size+1)*5>=t.mask*3
   ·rw[aJ pY]
    simp only[mJ,Bool.and_self,dD];have h7:t.mask=7:=by
     rcases B.small with e|e
     ·exact e
     ·rw[e]at pY;omega
    have h4:es.size=4:=by
     rcases K9 with y|y
     ·rw[h7]at pY;omega
     ·rw[h7]at y;cases y
    rw[h4];refine aa (Ih (knd:=knd) (ks:=k::ks) (s:={s with heap:=s.heap.update S (Obj.putSet (SetTable.insertAt es p1 (tupleKeyHash knd k,Value.ref a)) t1)}) qM hx rfl RN UR (by rw[F8,h4]) (by show t1.mask=7;rw[em,h7]) hV1 RM λh' sb' hT=>?_);exact aj (h2 z h' true (sb.trans sb') hT)
   ·rw[aD pY]
    simp only[mJ,C7,aX,cE];refine aj (h2 z _ true sb ⟨_,_,_,_,qM,hx,rfl,RN,UR,?_,hV1,RM⟩);rcases K9 with y|y
    ·by_cases y2:t.mask=31
     ·exact .inr (by show t1.mask=31;rw[em,y2])
     ·have h7:t.mask=7:=B.small.resolve_right y2
      rw[h7]at pY;exact .inl (by simp;omega)
    ·exact .inr (by show t1.mask=31;rw[em,y])
  split
  ·refine aa (QY hv hk ?_)
   simp only[dD];exact fin
  ·refine aa (aj ?_)
   simp only[dD];exact fin
end
section
variable{K:Type} [DecidableEq K]
def met(kt:Nat->List K):Nat->List (List K)
 |0=>[]
 |i+1=>if kt i∈met kt i then met kt i else kt i::met kt i
theorem qv(kt:Nat->List K):∀(i:Nat)(x:List K),x∈met kt i↔∃j,j<i/\kt j=x
 |0,x=>by simp[met]
 |i+1,x=>by
  unfold met;split
  ·rename_i h
   rw[qv kt i x];constructor
   ·rintro⟨j,h1,h2⟩;exact⟨j,by omega,h2⟩
   ·rintro⟨j,h1,h2⟩
    by_cases e:j=i
    ·subst e;rw[<-h2];exact(qv kt j _).mp h
    ·exact⟨j,by omega,h2⟩
  ·rw[aB,qv kt i x]
   constructor
   ·rintro(rfl|⟨j,h1,h2⟩)
    ·exact⟨i,by omega,rfl⟩
    ·exact⟨j,by omega,h2⟩
   ·rintro⟨j,h1,h2⟩
    by_cases e:j=i
    ·subst e;exact .inl h2.symm
    ·exact .inr ⟨j,by omega,h2⟩
theorem xC(kt:Nat->List K):∀i,(met kt i).length<=i
 |0=>ay _
 |i+1=>by
  unfold met;have:=xC kt i;split
  ·omega
  ·simp;omega
theorem Ha(kt:Nat->List K):∀i,(met kt i).length=i↔∀a b,a<b->b<i->kt a≠kt b
 |0=>by simp[met]
 |i+1=>by
  have ih:=Ha kt i;have hl:=xC kt i;unfold met;split
  ·rename_i h
   constructor
   ·intro e;omega
   ·intro e
    obtain⟨j,h1,h2⟩:=(qv kt i _).mp h
    exact absurd h2 (e j i h1 (by omega))
  ·rename_i h
   rw[aq];constructor
   ·intro e a b Gd hb
    by_cases z:b=i
    ·subst z
     exact λq=>h ((qv kt b _).mpr ⟨a,Gd,q⟩)
    ·exact ih.mp (by omega) a b Gd (by omega)
   ·intro e
    have:=ih.mpr λa b Gd hb=>e a b Gd (by omega)
    omega
end
section
variable{prog:Program}{w:World}{K:Type} [DecidableEq K]{knd:KeyKind prog w K}{A:Around}{R:Result->Shared->Prop}{I:Addr}{fp wr:List Addr}{G:Array GenState->Array GenState->Prop}{n:Nat}{P:Nat->Value->Prop}{St:Nat->Shared->Prop}
theorem pU{h h':Heap}{ks:List K}{a:Addr}(x:IsTupleKey knd h ks a)(k:∀o,h.get? a=some o->h'.get? a=some o):IsTupleKey knd h' ks a:=by
 obtain⟨o,items,n,ho,r⟩:=x;exact⟨o,items,n,k o ho,r⟩
theorem xg.kept{V:Value->Prop}{h h':Heap}{S:Addr}{ks:List (List K)}(T:xg knd V h S ks)(k:∀o,h.get? S=some o->h'.get? S=some o)(kk:∀a k,V (.ref a)->IsTupleKey knd h k a->IsTupleKey knd h' k a):xg knd V h' S ks:=by
 obtain⟨o,es,ep,t,ho,hx,hd,B,N,r,hV,hM⟩:=T;refine⟨o,es,ep,t,k o ho,hx,hd,B,⟨λe he=>?_,λq hq=>?_,N.nd,N.len⟩,r,hV,hM⟩
 ·obtain⟨q,hq,a,h1,h2,h3⟩:=N.ex e he
  exact⟨q,hq,a,h1,kk _ _ (h1▸hV e he) h2,h3⟩
 ·obtain⟨e,he,a,h1,h2,h3⟩:=N.all q hq
  exact⟨e,he,a,h1,kk _ _ (h1▸hV e he) h2,h3⟩
def Old(M:Nat)(v:Value):Prop:=∃b,v=.ref b/\b<M
theorem U9(W:WalksS prog w A.in1 I fp wr G n P St)(S M:Addr)(Mj:S∉fp)(hM:∀b∈wr,M<=b)(Z:Nat->Heap->Prop)(keep:∀i h h',Z i h->(∀b o,(b=S\/b<M)->h.get? b=some o->h'.get? b=some o)->Z i h')
  (add:∀(i:Nat)(v:Value)(s:Shared)(Q:Bool->Shared->Prop)(E:fw),i<n->P i v->Z i s.heap->(∀h' tk b,s.toks<=tk->Heap.SameBut S s.heap h'->Z (i+1) h'->Q b {s with heap:=h',toks:=tk})->wpAny (model prog w) A.in1 (setAdd S v) Q E s):
  ∀(k i:Nat)(s:Shared),n-i=k->i<=n->St i s->Z i s.heap->(∀s',Moved (S::wr) G s s'->Z n s'.heap->R (.ok (.ret .none)) s')->
   codeAny (model prog w) A (.builtin "set.update.loop" ⟨[.ref S,.ref I],[]⟩) R s:=by
 have hSw:S∉wr:=λh=>Mj (W.sub _ h)
 have K8:∀b∈wr,b∈S::wr:=λb hb=>ao _ hb
 have mv:∀{s s':Shared}{i:Nat},Moved wr G s s'->Z i s.heap->Z i s'.heap:=λ{s s' i}hm z=>keep i _ _ z λb o hb e=>hm.heap b o (λh=>by
  rcases hb with q|q
  ·exact hSw (q▸h)
  ·exact absurd (hM b h) (Nat.not_le.mpr q)) e
 intro k
 induction k with
 |zero=>
  intro i s hk hi Em hS hR;have xG:i=n:=by omega
  subst xG;refine iF F.entry_set_update_loop ?_;rw[gc JM _];show wpAny _ A.in1 (pyNext (.ref I)>>=_) _ _ s;refine aa (W.done s _ _ Em λs' hm=>?_);show wpAny _ A.in1 (ret Value.none) _ _ s';exact aj (hR s' (hm.mono K8) (mv hm hS))
 |succ k ih=>
  intro i s hk hi Em hS hR;have lT:i<n:=by omega
  refine iF F.entry_set_update_loop ?_;rw[gc JM _];show wpAny _ A.in1 (pyNext (.ref I)>>=_) _ _ s;refine aa (W.item i s _ _ lT Em λv s' hP Wa hm=>?_);show wpAny _ A.in1 (holding [v] (setAdd S v)>>=_) _ _ s';refine aa (dX (add i v s' _ _ lT hP (mv hm hS) λh' tk b htk La hz=>?_));refine aj ⟨rU JM _,?_⟩;refine ih (i+1) _ (by omega) lT (W.frame _ s' _ _ Wa htk λb hb o e=>?_) hz λA0 Wt WW=>?_
  ·rw[La.2 b (λh:b=S=>Mj (by rw[<-h];exact hb))];exact e
  ·refine hR A0 (Moved.trans W.gtrans ((hm.mono K8).then_heap htk λb o hb e=>?_) Wt) WW
   rw[La.2 b (λh:b=S=>hb (by rw[h];exact ax))];exact e
end
section
variable{prog:Program}{w:World}{A:Around}{E:fw}{s:Shared}
theorem MU(a:Value){Q₁:fw}
  (h:Q₁ (.ref s.heap.objs.size) {s with heap:=s.heap.push {cls:=.type "set",dict:=none,data:=.set #[] 0 (.fresh 0 0 (!d5 w))}}):
  codeAny (model prog w) A (.call (.builtin "set.__new__") ⟨[.type "set",a],[]⟩) (wants Q₁ E) s:=by
 refine codeAny_of_tree ?_;show wpAny _ A.in1 (do checkBuiltinCall "set.__new__" ⟨[.type "set",a],[]⟩;again (.builtin "set.__new__" ⟨[.type "set",a],[]⟩)) _ _ s;refine aa (wpAny_of_eq (F.newCall_set_1 a) (aj ⟨rU F.plain_set_new _,iF F.entry_set_new ?_⟩));rw[gc F.plain_set_new _];unfold Builtin.«set.__new__» Builtin.Frozenset.newClass;have K8:=sub_set_self;obtain⟨hp,g,d,tk,os⟩:=s;dsimp only
 wp_walk
 refine C1 (aj ?_);dsimp only;simp only[newObj];refine aa (wpAny_alloc (aj ?_));exact aj h
theorem uG{l:Addr}{items:Array Value}{Q:fw}(Z:Nat->Heap->Prop)
  (hh:A.handled=none)(hl:s.heap.IsList l items)
  (z0:∀h:Heap,h.get? s.heap.objs.size=some {cls:=.type "set",dict:=none,data:=.set #[] 0 (.fresh 0 0 (!d5 w))}->(∀b o,s.heap.get? b=some o->h.get? b=some o)->Z 0 h)
  (keep:∀i h h',Z i h->(∀b o,(b=s.heap.objs.size\/b<s.heap.objs.size)->h.get? b=some o->h'.get? b=some o)->Z i h')
  (add:∀(i:Nat)(v:Value)(s1:Shared)(Q:Bool->Shared->Prop)(E:fw),i<items.size->items[i]?=some v->Z i s1.heap->(∀h' tk b,s1.toks<=tk->Heap.SameBut s.heap.objs.size s1.heap h'->Z (i+1) h'->Q b {s1 with heap:=h',toks:=tk})->wpAny (model prog w) A.in1.in1.in1 (setAdd s.heap.objs.size v) Q E s1)
  (h:∀(h':Heap)(tk:Nat),Z items.size h'->(∀b o,b<s.heap.objs.size->s.heap.get? b=some o->h'.get? b=some o)->Q (.ref s.heap.objs.size) {s with heap:=h',toks:=tk}):
  wpAny (model prog w) A (call (.type "set") [.ref l]) Q E s:=by
 obtain⟨c0,tl0,hmro⟩:=F.called_set.mro;have hmade:=F.called_set.made;have K8:=F.called_set.sub;refine wpAny_call (codeAny_of_tree ?_);show wpAny _ _ (callAny (.type "set") _) _ _ _;refine aj ⟨Code.quiet_builtin _ (by decide +kernel),iF F.entry_type_call ?_⟩;rw[Around.under_plain (weight_type_call_type "set" [.ref l] []) rfl];have n1:=F.called_set.notType;have n2:=F.called_set.canCreate;have n3:=F.typeCall_set_1 (.ref l)
 repeat (any_goals (first|assumption|wp_step))
 refine oS (MU (.ref l) (E:=E) (Q₁:=λob cY=>ob=.ref s.heap.objs.size/\cY={s with heap:=s.heap.push {cls:=.type "set",dict:=none,data:=.set #[] 0 (.fresh 0 0 (!d5 w))}}) ⟨rfl,rfl⟩) λr cY hr=>?_
 cases r with
 |error e=>exact hr
 |ok fl=>
  cases fl with
  |ret ob=>
   obtain⟨rfl,rfl⟩:=hr;have hS:(s.heap.push {cls:=.type "set",dict:=none,data:=.set #[] 0 (.fresh 0 0 (!d5 w))}).get? s.heap.objs.size=some {cls:=.type "set",dict:=none,data:=.set #[] 0 (.fresh 0 0 (!d5 w))}:=aO _ rfl
   have hT:Shared.TypeIs {s with heap:=s.heap.push {cls:=.type "set",dict:=none,data:=.set #[] 0 (.fresh 0 0 (!d5 w))}} (.ref s.heap.objs.size) "set":=⟨_,hS,rfl⟩;have n4:=F.called_set.init.lookup;have n5:=F.called_set.init.bind (.ref s.heap.objs.size)
   repeat (any_goals (first|assumption|wp_step))
   refine oS (codeAny_call_builtin (R:=wants (λr kC=>r=.none/\∃h' tk,kC={s with heap:=h',toks:=tk}/\
     Z items.size h'/\
     (∀b o,b<s.heap.objs.size->s.heap.get? b=some o->h'.get? b=some o)) E) F.called_set.init.plain F.entry_set_init (check_set_init_1 hT ?_)) λVo kC Lb=>?_
   ·obtain⟨ol,hol,F9,nl,hdl⟩:=hl
    obtain⟨ocls,SM,odata,P8⟩:=ol;simp only at F9 hdl;subst F9;subst hdl;have Wo:(s.heap.push {cls:=.type "set",dict:=none,data:=.set #[] 0 (.fresh 0 0 (!d5 w))}).get? l=some {cls:=.type "list",dict:=SM,data:=.seq items nl,slots:=P8}:=ak _ hol
    have n6:=F.sub_list_set;have n7:=F.sub_list_frozenset;have n8:(Value.type "list"==Value.type "dict")=false:=by decide
    have zN:(s.heap.push {cls:=.type "set",dict:=none,data:=.set #[] 0 (.fresh 0 0 (!d5 w))}).IsList l items:=⟨_,Wo,rfl,nl,rfl⟩
    unfold Builtin.«set.__init__» noKeywords Builtin.Frozenset.updateFrom;generalize hPI:pyIter=PI
    wp_walk
    subst hPI;refine zQ zN ?_;refine aa (wpAny_runValue ?_);have hlS:l<s.heap.objs.size:=aM hol;have hh3:A.in1.in1.in1.handled=none:=by simp[hh]
    have JK:(s.heap.push {cls:=.type "set",dict:=none,data:=.set #[] 0 (.fresh 0 0 (!d5 w))}).objs.size=s.heap.objs.size+1:=bT _ _
    have Ws:l≠(s.heap.push {cls:=.type "set",dict:=none,data:=.set #[] 0 (.fresh 0 0 (!d5 w))}).objs.size:=by rw[JK];exact a0 (fc hlS)
    have Mj:s.heap.objs.size∉ [(s.heap.push {cls:=.type "set",dict:=none,data:=.set #[] 0 (.fresh 0 0 (!d5 w))}).objs.size,l]:=by
     rw[JK];simp only[aB,xm,or_false,not_or];exact⟨a0 (iI _),gx hlS⟩
    have kp:∀b o,s.heap.get? b=some o->((s.heap.push {cls:=.type "set",dict:=none,data:=.set #[] 0 (.fresh 0 0 (!d5 w))}).push {cls:=.type "list_iterator",data:=.fields #[.ref l,.int 0 0]}).get? b=some o:=λb o q=>ak _ (ak _ q)
    refine U9 ((Walks.list hh3 _ l Ws items).toS) s.heap.objs.size s.heap.objs.size Mj (λb hb=>?_) Z keep (λi v s1 Q E h1 h2 h3 h4=>add i v s1 Q E h1 h2 h3 h4) (items.size-0) 0 _ (by omega) (bp _)
     ⟨⟨_,aO _ rfl,rfl,rfl⟩,(zN.push _)⟩ ?hS0 ?hR
    ·rw[aP.mp hb,JK];exact lR _
    case hS0=>exact z0 _ (ak _ hS) kp
    case hR=>
     intro s' hm NN;obtain⟨h',g',d',Oc,P9⟩:=s';have eg:g'=s.gens:=hm.gens;have ed:d'=s.drawn:=hm.drawn;have eo:P9=s.os:=hm.os;subst eg ed eo;show wpAny _ _ _ _ _ _;refine aj ?_;show wpAny _ _ (ret Value.none) _ _ _;refine aj ⟨rfl,h',Oc,rfl,NN,λb o hb e=>?_⟩;exact hm.heap b o (by rw[JK];simp only[aB,xm,or_false,not_or];exact⟨a0 hb,a0 (fc hb)⟩) (kp b o e)
   ·cases Vo with
    |error e=>exact Lb
    |ok TQ=>
     cases TQ with
     |ret r=>
      obtain⟨rfl,h',tk,rfl,NN,F6⟩:=Lb
      repeat (any_goals (first|assumption|wp_step))
      exact h _ _ NN F6
     |_=>exact Lb.elim
  |_=>exact hr.elim
end
section
variable{prog:Program}{w:World}{K:Type} [DecidableEq K]{knd:KeyKind prog w K}{A:Around}{E:fw}{s:Shared}
theorem IY{h:Heap}{a:Addr}{V:Value->Prop}(hg:h.get? a=some {cls:=.type "set",dict:=none,data:=.set #[] 0 (.fresh 0 0 (!d5 w))}):xg knd V h a []:=
 ⟨_,#[],0,_,hg,⟨rfl,rfl,rfl⟩,rfl,Bb 0 0 _,⟨λe he=>by simp at he,λk hk=>by simp at hk,.nil,rfl⟩,.inl (by simp),λe he=>by simp at he,λz=>⟨by show(!d5 w)=true;rw[z];rfl,rfl⟩⟩
theorem AD(hv:Hv knd){l:Addr}{items:Array Value}{kt:Nat->List K}{Q:fw}
  (hh:A.handled=none)(hl:s.heap.IsList l items)(hi:∀(i:Nat)(v:Value),items[i]?=some v->∃a,v=.ref a/\IsTupleKey knd s.heap (kt i) a)(hb:items.size<=12)(hu:A.units+64<cLine)
  (h:∀(h':Heap)(tk:Nat),xg knd (λv=>Old s.heap.objs.size v/\v∈items.toList) h' s.heap.objs.size (met kt items.size)->
   (∀b o,b<s.heap.objs.size->s.heap.get? b=some o->h'.get? b=some o)->Q (.ref s.heap.objs.size) {s with heap:=h',toks:=tk}):
  wpAny (model prog w) A (call (.type "set") [.ref l]) Q E s:=by
 have old:∀a k,IsTupleKey knd s.heap k a->a<s.heap.objs.size:=λa k x=>by obtain⟨o,_,_,ho,_⟩:=x;exact aM ho
 refine uG (λi h=>xg knd (λv=>Old s.heap.objs.size v/\v∈items.toList) h s.heap.objs.size (met kt i)/\∀(j:Nat)(v:Value),items[j]?=some v->∃a,v=.ref a/\a<s.heap.objs.size/\IsTupleKey knd h (kt j) a) hh hl (λh h1 h2=>⟨IY h1,λj v hj=>?_⟩) (λi h h' z k=>⟨z.1.kept (λo e=>k _ o (.inl rfl) e) λa q ha x=>?_,λj v hj=>?_⟩) (λi v s1 R E' xG UK z hR=>?_) λh' tk z k=>h h' tk z.1 k
 ·obtain⟨a,e,x⟩:=hi j v hj
  exact⟨a,e,old a _ x,pU x λo q=>h2 a o q⟩
 ·obtain⟨⟨b,e,xH⟩,_⟩:=ha
  cases e;exact pU x λo e=>k a o (.inr xH) e
 ·obtain⟨a,e,ha,x⟩:=z.2 j v hj
  exact⟨a,e,ha,pU x λo e=>k a o (.inr ha) e⟩
 ·obtain⟨z1,z2⟩:=z
  obtain⟨a,rfl,haM,ha⟩:=z2 i v UK;unfold setAdd;refine dX ?_;have hu3:A.in1.in1.in1.units<cLine:=by show A.units+1+1+1<cLine;omega
  refine aa (wpAny_pyHash_tuple hu3 ha ?_);have Tp:(met kt i).length<12:=by have:=xC kt i;omega
  have kz:∀h',Heap.SameBut s.heap.objs.size s1.heap h'->∀(j:Nat)(v:Value),items[j]?=some v->∃a,v=.ref a/\a<s.heap.objs.size/\IsTupleKey knd h' (kt j) a:=λh' La j v hj=>by
   obtain⟨a2,e2,l2,k2⟩:=z2 j v hj;exact⟨a2,e2,l2,pU k2 λo ho=>(La.2 a2 (a0 l2)).trans ho⟩
  refine N4 hv (s:={s1 with toks:=s1.toks+((kt i).length+1)}) (knd:=knd) (V:=λv=>Old s.heap.objs.size v/\v∈items.toList) z1 Tp ha ⟨⟨a,rfl,haM⟩,by rw[Array.mem_toList_iff];exact Array.mem_of_getElem? UK⟩ hu3 (λxG b=>?_) λxG h' b La hT=>?_
  ·refine hR s1.heap _ b (iJ _ _) (Heap.SameBut.refl _ _) ⟨?_,z2⟩
   unfold met;rw[az xG];exact z1
  ·refine hR h' _ b (iJ _ _) La ⟨?_,kz h' La⟩
   unfold met;rw[aw xG];exact hT
end
end PbSet
namespace PbC
open PySem
def Inner(prog:Program)(w:World)(A:Around)(P:Nat->Value->Prop)(n:Nat)(fp:List Addr)(S:Addr)(s:Shared):Prop:=
 ∃St:Nat->Heap->Prop,Walks prog w A (S+1) fp [S+1] n P St/\St 0 s.heap/\S∉fp
section
variable{prog:Program}{w:World}{A:Around}{E:fw}{s:Shared}{n:Nat}{P:Nat->Value->Prop}
theorem CJ{Q:List Value->Shared->Prop}{x:Addr}(hT:s.TypeIs (.ref x) "dict")
  (hit:∀(cY:Shared),(∃o,cY={s with heap:=s.heap.push o})->∀(R:fw)(E':fw),(∀o',Inner prog w A.in1 P n [s.heap.objs.size+1,x] s.heap.objs.size {cY with heap:=cY.heap.push o'}->R (.ref (s.heap.objs.size+1)) {cY with heap:=cY.heap.push o'})->wpAny (model prog w) A.in1 (pyIter (.ref x)) R E' cY)
  (hQ:∀h' tk acc,s.heap.objs.size<h'.objs.size->(∀b o,s.heap.get? b=some o->h'.get? b=some o)->ItemsOf P acc n->Q acc.toList {s with heap:=h',toks:=tk})(hn:n<=sizeLine):wpAny (model prog w) A (collect (.ref x)) Q E s:=by
 have hx:x<s.heap.objs.size:=by obtain⟨o,e,_⟩:=hT;exact aM e
 have WV:s.heap.objs.size≠x:=gx hx;unfold collect;refine aa (wpAny_runValue (iF F.entry_proto_collect ?_));rw[gc F.plain_proto_collect _];show wpAny _ A.in1 (newList []>>=λl=>again (.builtin "list.__iadd__" ⟨[l,.ref x],[]⟩)) _ _ s;refine aa (gy ?_);refine aj ⟨rU zU _,iF F.entry_list_iadd ?_⟩;rw[gc zU _];show wpAny _ A.in1 (Builtin.List.listExtendWith (.ref s.heap.objs.size) (.ref x) (.ref s.heap.objs.size)) _ _ _;unfold Builtin.List.listExtendWith;have TK:Shared.TypeIs {s with heap:=s.heap.push {cls:=.type "list",data:=.seq ([]:List Value).toArray}} (.ref x) "dict":=by
  obtain⟨o,e,c⟩:=hT;exact⟨o,ak _ e,c⟩
 refine aa (vV TK ?_);have h1:Builtin.List.listSameRef (.ref s.heap.objs.size) (.ref x)=false:=by simp[Builtin.List.listSameRef,WV]
 have h2:(Value.type "dict"==Value.type "list")=false:=by decide
 have h3:(Value.type "dict"==Value.type "tuple")=false:=by decide
 simp only[h1,h2,h3,Bool.or_false,aX,cE];refine aa (hit _ ⟨_,rfl⟩ _ _ λo' VZ=>?_);have Lm:Shared.TypeIs {s with heap:=(s.heap.push {cls:=.type "list",data:=.seq ([]:List Value).toArray}).push o'} (.ref x) "dict":=by
  obtain⟨o,e,c⟩:=TK;exact⟨o,ak _ e,c⟩
 refine aa (dX ?_);unfold Builtin.List.listLengthHint;refine aa (iD Lm F.slot_dict_len.lookup ?_);show wpAny _ A.in1 (isInstance (.ref x) (.type "dict")>>=_) _ _ _;refine aa (jd Lm isSubtype_dict_dict ?_);show wpAny _ A.in1 (typeOf (.ref x)>>=_) _ _ _;refine aa (vV Lm ?_);refine aj ?_;show wpAny _ A.in1 (rule "list.extend.makes-room">>=λ_=>Builtin.List.listTouch (.ref s.heap.objs.size)>>=λ_=>
  again (.builtin "list.extend.loop" ⟨[.ref s.heap.objs.size,.ref (s.heap.objs.size+1),.ref s.heap.objs.size],[]⟩)) _ _ _
 refine aa (nq ?_);obtain⟨St,W,Em,Mj⟩:=VZ;have Ey:((s.heap.push {cls:=.type "list",data:=.seq ([]:List Value).toArray}).push o').get? s.heap.objs.size=some {cls:=.type "list",data:=.seq ([]:List Value).toArray}:=ak _ (aO _ rfl)
 refine aa ?_;show wpAny _ A.in1 (updateSeq s.heap.objs.size (·.push .none)>>=λ_=>updateSeq s.heap.objs.size (·.pop)) _ _ _;refine aa (Fc Ey rfl ?_);have Ex:=eI (Obj.mapSeq (·.push Value.none)) Ey rfl;refine Fc Ex rfl ?_;have Ln:=eI (Obj.mapSeq (·.pop)) Ex rfl;have SG:∀b o,b≠s.heap.objs.size->((s.heap.push {cls:=.type "list",data:=.seq ([]:List Value).toArray}).push o').get? b=some o->
   ((((s.heap.push {cls:=.type "list",data:=.seq ([]:List Value).toArray}).push o').update s.heap.objs.size (Obj.mapSeq (·.push Value.none))).update s.heap.objs.size (Obj.mapSeq (·.pop))).get? b=some o:=
  λb o hb e=>(gJ _ _ (fZ hb)).trans ((gJ _ _ (fZ hb)).trans e)
 refine aj ⟨rU F.plain_extend_loop _,codeAny_extend_loopS W.toS hn _ Mj _ n 0 _ _ _ rfl (bp _)
  (W.toS.frame 0 ({s with heap:=(s.heap.push {cls:=.type "list",data:=.seq ([]:List Value).toArray}).push o'}:Shared) _ s.toks Em (ay _) λb hb o e=>SG b o (λh=>Mj (h▸hb)) e) Ln (ItemsOf.nil P) λs' Rl c' hm NN CB=>?_⟩
 show wpAny _ A (load s.heap.objs.size>>=_) _ _ s';refine aa (wpAny_load NN ?_);obtain⟨h',g',d',Oc,P9⟩:=s';have eg:g'=s.gens:=hm.gens;have ed:d'=s.drawn:=hm.drawn;have eo:P9=s.os:=hm.os;subst eg ed eo;refine aj (hQ h' Oc Rl (aM NN) (λb o e=>?_) CB);have hb:=aM e;refine hm.heap b o (λgv=>?_) (SG b o (a0 hb) (ak _ (ak _ e)));rcases aB.mp gv with q|q
 ·exact absurd hb (by rw[q];exact dJ _)
 ·have q:=aP.mp q
  exact absurd hb (by rw[q];exact Nat.not_lt.mpr (lR _))
theorem EI{Q:List Value->Shared->Prop}{x:Addr}(hT:s.TypeIs (.ref x) "set")
  (hit:∀(cY:Shared),(∃o,cY={s with heap:=s.heap.push o})->∀(R:fw)(E':fw),(∀o',Inner prog w A.in1 P n [s.heap.objs.size+1,x] s.heap.objs.size {cY with heap:=cY.heap.push o'}->R (.ref (s.heap.objs.size+1)) {cY with heap:=cY.heap.push o'})->wpAny (model prog w) A.in1 (pyIter (.ref x)) R E' cY)
  (hQ:∀h' tk acc,s.heap.objs.size<h'.objs.size->(∀b o,s.heap.get? b=some o->h'.get? b=some o)->ItemsOf P acc n->Q acc.toList {s with heap:=h',toks:=tk})(hn:n<=sizeLine):wpAny (model prog w) A (collect (.ref x)) Q E s:=by
 have hx:x<s.heap.objs.size:=by obtain⟨o,e,_⟩:=hT;exact aM e
 have WV:s.heap.objs.size≠x:=gx hx;unfold collect;refine aa (wpAny_runValue (iF F.entry_proto_collect ?_));rw[gc F.plain_proto_collect _];show wpAny _ A.in1 (newList []>>=λl=>again (.builtin "list.__iadd__" ⟨[l,.ref x],[]⟩)) _ _ s;refine aa (gy ?_);refine aj ⟨rU zU _,iF F.entry_list_iadd ?_⟩;rw[gc zU _];show wpAny _ A.in1 (Builtin.List.listExtendWith (.ref s.heap.objs.size) (.ref x) (.ref s.heap.objs.size)) _ _ _;unfold Builtin.List.listExtendWith;have TK:Shared.TypeIs {s with heap:=s.heap.push {cls:=.type "list",data:=.seq ([]:List Value).toArray}} (.ref x) "set":=by
  obtain⟨o,e,c⟩:=hT;exact⟨o,ak _ e,c⟩
 refine aa (vV TK ?_);have h1:Builtin.List.listSameRef (.ref s.heap.objs.size) (.ref x)=false:=by simp[Builtin.List.listSameRef,WV]
 have h2:(Value.type "set"==Value.type "list")=false:=by decide
 have h3:(Value.type "set"==Value.type "tuple")=false:=by decide
 simp only[h1,h2,h3,Bool.or_false,aX,cE];refine aa (hit _ ⟨_,rfl⟩ _ _ λo' VZ=>?_);have Lm:Shared.TypeIs {s with heap:=(s.heap.push {cls:=.type "list",data:=.seq ([]:List Value).toArray}).push o'} (.ref x) "set":=by
  obtain⟨o,e,c⟩:=TK;exact⟨o,ak _ e,c⟩
 refine aa (dX ?_);unfold Builtin.List.listLengthHint;refine aa (iD Lm F.slot_set_len.lookup ?_);show wpAny _ A.in1 (isInstance (.ref x) (.type "set")>>=_) _ _ _;refine aa (jd Lm sub_set_self ?_);show wpAny _ A.in1 (typeOf (.ref x)>>=_) _ _ _;refine aa (vV Lm ?_);refine aj ?_;show wpAny _ A.in1 (rule "list.extend.makes-room">>=λ_=>Builtin.List.listTouch (.ref s.heap.objs.size)>>=λ_=>
  again (.builtin "list.extend.loop" ⟨[.ref s.heap.objs.size,.ref (s.heap.objs.size+1),.ref s.heap.objs.size],[]⟩)) _ _ _
 refine aa (nq ?_);obtain⟨St,W,Em,Mj⟩:=VZ;have Ey:((s.heap.push {cls:=.type "list",data:=.seq ([]:List Value).toArray}).push o').get? s.heap.objs.size=some {cls:=.type "list",data:=.seq ([]:List Value).toArray}:=ak _ (aO _ rfl)
 refine aa ?_;show wpAny _ A.in1 (updateSeq s.heap.objs.size (·.push .none)>>=λ_=>updateSeq s.heap.objs.size (·.pop)) _ _ _;refine aa (Fc Ey rfl ?_);have Ex:=eI (Obj.mapSeq (·.push Value.none)) Ey rfl;refine Fc Ex rfl ?_;have Ln:=eI (Obj.mapSeq (·.pop)) Ex rfl;have SG:∀b o,b≠s.heap.objs.size->((s.heap.push {cls:=.type "list",data:=.seq ([]:List Value).toArray}).push o').get? b=some o->
   ((((s.heap.push {cls:=.type "list",data:=.seq ([]:List Value).toArray}).push o').update s.heap.objs.size (Obj.mapSeq (·.push Value.none))).update s.heap.objs.size (Obj.mapSeq (·.pop))).get? b=some o:=
  λb o hb e=>(gJ _ _ (fZ hb)).trans ((gJ _ _ (fZ hb)).trans e)
 refine aj ⟨rU F.plain_extend_loop _,codeAny_extend_loopS W.toS hn _ Mj _ n 0 _ _ _ rfl (bp _)
  (W.toS.frame 0 ({s with heap:=(s.heap.push {cls:=.type "list",data:=.seq ([]:List Value).toArray}).push o'}:Shared) _ s.toks Em (ay _) λb hb o e=>SG b o (λh=>Mj (h▸hb)) e) Ln (ItemsOf.nil P) λs' Rl c' hm NN CB=>?_⟩
 show wpAny _ A (load s.heap.objs.size>>=_) _ _ s';refine aa (wpAny_load NN ?_);obtain⟨h',g',d',Oc,P9⟩:=s';have eg:g'=s.gens:=hm.gens;have ed:d'=s.drawn:=hm.drawn;have eo:P9=s.os:=hm.os;subst eg ed eo;refine aj (hQ h' Oc Rl (aM NN) (λb o e=>?_) CB);have hb:=aM e;refine hm.heap b o (λgv=>?_) (SG b o (a0 hb) (ak _ (ak _ e)));rcases aB.mp gv with q|q
 ·exact absurd hb (by rw[q];exact dJ _)
 ·have q:=aP.mp q
  exact absurd hb (by rw[q];exact Nat.not_lt.mpr (lR _))
theorem CI{K:Type} [DecidableEq K]{knd:KeyKind prog w K}{d:Addr}{bJ:List (K×Value)}{Q:List Value->Shared->Prop}(hh:A.handled=none)(hs:(d==sysModules)=false)(hd:s.heap.DictOf knd d bJ)(hn:bJ.length<=sizeLine)
  (hQ:∀h' tk acc,s.heap.objs.size<h'.objs.size->(∀b o,s.heap.get? b=some o->h'.get? b=some o)->ItemsOf (λi v=>∃k x,bJ[i]?=some (k,x)/\knd.is k v=true) acc bJ.length->Q acc.toList {s with heap:=h',toks:=tk}):
  wpAny (model prog w) A (collect (.ref d)) Q E s:=by
 obtain⟨o,es,ep,ho,hc,E9,r⟩:=id hd;have lT:d<s.heap.objs.size:=aM ho;refine CJ (n:=bJ.length) hd.typeIs (λcY K7 R E' hR=>?_) hQ hn;obtain⟨DQ,rfl⟩:=K7;have at1:(s.heap.push DQ).DictAt knd d bJ ep:=⟨o,es,ak _ ho,hc,E9,r⟩
 refine wpAny_pyIter_dict hs at1 ?_;have e:(s.heap.push DQ).objs.size=s.heap.objs.size+1:=bT _ _
 show R (.ref (s.heap.push DQ).objs.size) _
 rw[e];have it0:((s.heap.push DQ).push {cls:=.type "dict_keyiterator",data:=.fields #[.ref d,.int 0 0,.int bJ.length 0,.int ep 0]}).get? (s.heap.objs.size+1)=some {cls:=.type "dict_keyiterator",data:=.fields #[.ref d,.int 0 0,.int bJ.length 0,.int ep 0]}:=by
  rw[<-e];exact aO _ rfl
 refine hR _ ⟨_,Walks.dictKeys (knd:=knd) (by simpa using hh) (s.heap.objs.size+1) d (a0 (fc lT)) bJ ep,⟨⟨_,it0,rfl,rfl⟩,?_⟩,?_⟩
 ·exact⟨o,es,ak _ (ak _ ho),hc,E9,r⟩
 ·simp only[aB,xm,or_false,not_or]
  exact⟨a0 (iI _),gx lT⟩
end
end PbC
namespace PbSet
open PySem PySem.Spec PyProof.Rows
theorem DR:Manifest.owners.lookup (String.ofList ['r','o','t','a','r','e','t','i','_','t','e','s'].reverse)=some Manifest.sig_set_iterator:=by kernel_rfl
theorem ij:Slot "set_iterator" "__next__" "set_iterator.__next__":=
 .of (owner:="set_iterator") (n:="__next__") (by rw[typeLookup_type,builtinLookup_eq_fast];kernel_rfl) (by decide +kernel) (by decide +kernel) (by decide +kernel)
  (by first|exact .inl (by decide +kernel)|exact .inr (by decide +kernel)) (by rw[isSubtype_type];kernel_rfl)
theorem rJ:entryFor table "set_iterator.__next__"=some Builtin.«set_iterator.__next__»:=entryFor_of_tree (by kernel_rfl)
theorem uL(a:Value):argsOk "set_iterator.__next__" ⟨[a],[]⟩:=by
 unfold argsOk;rw[signature?_of (id:="set_iterator.__next__") (n:=['_','_','t','x','e','n','_','_']) (o:=['r','o','t','a','r','e','t','i','_','t','e','s']) (by kernel_rfl) DR];kernel_rfl
theorem tL:Slot "set_iterator" "__iter__" "set_iterator.__iter__":=
 .of (owner:="set_iterator") (n:="__iter__") (by rw[typeLookup_type,builtinLookup_eq_fast];kernel_rfl) (by decide +kernel) (by decide +kernel) (by decide +kernel)
  (by first|exact .inl (by decide +kernel)|exact .inr (by decide +kernel)) (by rw[isSubtype_type];kernel_rfl)
theorem AA:entryFor table "set_iterator.__iter__"=some Builtin.«dict_keyiterator.__iter__»:=
 entryFor_alias (id':="dict_keyiterator.__iter__") (by kernel_rfl) rfl (by decide +kernel) (by kernel_rfl)
theorem CT(a:Value):argsOk "set_iterator.__iter__" ⟨[a],[]⟩:=by
 unfold argsOk;rw[signature?_of (id:="set_iterator.__iter__") (n:=['_','_','r','e','t','i','_','_']) (o:=['r','o','t','a','r','e','t','i','_','t','e','s']) (by kernel_rfl) DR];kernel_rfl
theorem zc:entryFor table "set.__iter__"=some Builtin.«frozenset.__iter__»:=
 entryFor_alias (id':="frozenset.__iter__") (by kernel_rfl) rfl (by decide +kernel) (by kernel_rfl)
theorem y9{α:Type}:∀(l:List α)(i:Nat)(x:α),l[i]?=some x->(x::l.eraseIdx i).Perm l
 | [],i,x,h=>by simp at h
 |y::l,0,x,h=>by
  have e:y=x:=by simpa using h
  rw[e];exact C6 _
 |y::l,i+1,x,h=>by
  have ih:=y9 l i x (by simpa using h);rw[List.eraseIdx_cons_succ];exact(List.Perm.swap y x _).trans (ih.cons y)
theorem GZ{α:Type}(next:Nat->Nat):∀(n k:Nat)(left:List α)(out:Array α),left.length=n->(pickOrder.go next n k left out).toList.Perm (out.toList++left)
 |0,k,left,out,h=>by
  have e:left=[]:=fN h;subst e;unfold pickOrder.go;simp
 |n+1,k,left,out,h=>by
  unfold pickOrder.go;have lT:next k%left.length<left.length:=Nat.mod_lt _ (by omega);have hx:left[next k%left.length]?=some left[next k%left.length]:=ae lT;rw[hx];dsimp only;refine(GZ next n (k+1) (left.eraseIdx (next k%left.length)) (out.push left[next k%left.length]) (by rw[List.length_eraseIdx_of_lt lT];omega)).trans ?_
  rw[Array.toList_push,JD];exact(y9 left _ _ hx).append_left _
theorem A2{α:Type}(next:Nat->Nat)(xs:Array α):(pickOrder next xs).toList.Perm xs.toList:=by
 have:=GZ next xs.size 0 xs.toList #[] (by simp);simpa[pickOrder]using this
section
variable{prog:Program}{w:World}{A:Around}{E:fw}{s:Shared}
theorem sh{Q:Bool->Shared->Prop}(h:Q (d5 w) s):wpAny (model prog w) A setsByText Q E s:=by
 unfold setsByText;exact aa (C1 (aj h))
structure gI(w:World)(h:Heap)(x:Addr)(o:Obj)(es:Array (Int×Value))(ep:Nat)(t:SetTable):Prop where
 ho:h.get? x=some o
 ex:o.ExactSet
 hd:o.data=.set es ep t
 fit:t.fits es.size=true
 rise:qj t.place
 led:d5 w=false->t.led=true
 plain:d5 w=false->t.plain=true
def orderOf(w:World)(x:Addr)(es:Array (Int×Value))(ep:Nat):List (Int×Value):=if d5 w=true then(pickOrder (w.params.setOrder x ep) es).toList else es.toList
theorem nT(w:World)(x:Addr)(es:Array (Int×Value))(ep:Nat):(orderOf w x es ep).Perm es.toList:=by
 unfold orderOf;split
 ·exact A2 _ _
 ·exact C6 _
def qH(w:World)(h:Heap)(I x:Addr)(es:Array (Int×Value))(ep:Nat)(t:SetTable)(i:Nat):Prop:=
 ∃slot:Nat,h.get? I=some {cls:=.type "set_iterator",data:=.fields #[rawInt slot,rawInt i,.ref x,rawInt es.size,rawInt ep]}/\(d5 w=false->SetTable.below t.place slot=i)
theorem Gx{xs:Array Nat}(R:qj xs){i:Nat}(h:i<xs.size):SetTable.below xs (xs[i]+1)=i+1:=by
 obtain⟨p,e,hp,h1,h2⟩:=qe R (xs[i]+1);rw[e];have a:i<p:=by
  by_cases z:p<=i
  ·have:=h2 i h z;omega
  ·omega
 by_cases b:i+1<p
 ·have lT:i+1<xs.size:=by omega
  have:=h1 (i+1) lT b;have:=R i (i+1) h lT (iI _);omega
 ·omega
theorem Gw{xs:Array Nat}(R:qj xs):SetTable.below xs 0=0:=by
 obtain⟨p,e,hp,h1,h2⟩:=qe R 0;rw[e]
 by_cases z:0<p
 ·have:=h1 0 (by omega) z;omega
 ·omega
theorem Be{t:SetTable}{n:Nat}(h:t.fits n=true):t.place.size=n:=by
 unfold SetTable.fits at h;simp only[a6,fb]at h;exact h.1
theorem next_item{I x:Addr}{o:Obj}{es:Array (Int×Value)}{ep:Nat}{t:SetTable}{i:Nat}{e:Int×Value}{Q:Option Value->Shared->Prop}(W:gI w s.heap x o es ep t)(it:qH w s.heap I x es ep t i)(he:(orderOf w x es ep)[i]?=some e)
  (hQ:∀h',qH w h' I x es ep t (i+1)->Heap.SameBut I s.heap h'->Q (some e.2) {s with heap:=h'}):wpAny (model prog w) A (pyNext (.ref I)) Q E s:=by
 obtain⟨slot,hI,hb⟩:=it;have hT:s.TypeIs (.ref I) "set_iterator":=⟨_,hI,rfl⟩;have hpz:=Be W.fit;unfold pyNext;refine aa (AF (eZ (name:=Str.ofString "__next__") hT ij (dC ij hT rJ ?_ (uL _))));unfold Builtin.«set_iterator.__next__»;refine aa (aj ?_);dsimp only;refine aa (wpAny_fieldsOf hI rfl ?_);dsimp only[rawInt];refine aa (m:=setEntries x) ?_;unfold setEntries;refine aa (cc W.ho W.hd W.fit (aj ?_));dsimp only;rw[aw (by simp)];have hxI:x≠I:=λq=>by
  have h1:=W.ho;rw[q,hI]at h1;cases h1;have:=W.hd;cases this
 have hi:i<es.size:=by
  have h1:=(aN.mp he).1
  rw[(nT w x es ep).length_eq]at h1
  simpa using h1
 obtain⟨Dz,hn,xH⟩:∃Dz:Nat,(∀(R:Option (Value×Nat)->Shared->Prop)(E':fw)(A':Around),R (some (e.2,Dz)) s->wpAny (model prog w) A' (setNext x ((slot:Int)).toNat ((i:Int)).toNat ((ep:Int)).toNat) R E' s)/\(d5 w=false->SetTable.below t.place Dz=i+1):=by
  cases Gb:d5 w with
  |true=>
   refine⟨slot,λR E' A' hR=>?_,λz=>by cases z⟩;unfold setNext;refine aa (cc W.ho W.hd W.fit ?_);dsimp only;refine aa (sh ?_);rw[Gb];simp only[dD];rw[aw (by simp)];unfold setWalk;refine aa (aa (cc W.ho W.hd W.fit ?_));dsimp only;refine aa (sh ?_);rw[Gb];simp only[dD];refine aa (C1 (aj (aj ?_)));have e1:(pickOrder (w.params.setOrder x ep) es)[i]?=some e:=by
    unfold orderOf at he;rw[az Gb]at he;rw[<-dA];exact he
   simp only[b9];have e2:(pickOrder ((model prog w).w.params.setOrder x ep) es)[i]?=some e:=e1
   rw[e2];exact hR
  |false=>
   have WT:=hb Gb;have uU:i<t.place.size:=by rw[hpz];exact hi
   refine⟨t.place[i]+1,λR E' A' hR=>?_,λ_=>Gx W.rise uU⟩;unfold setNext;refine aa (cc W.ho W.hd W.fit ?_);dsimp only;refine aa (sh ?_);rw[Gb];simp only[aX,cE];have vC:=W.plain Gb;have Ww:=W.led Gb;have e1:es[i]?=some e:=by
    unfold orderOf at he;rw[aw (by rw[Gb];exact aK)]at he;rw[<-dA];exact he
   have e2:t.place[i]?=some t.place[i]:=fA uU;show wpAny _ _ (if(!t.plain&&decide (es.size>1))=true then _ else _) _ _ _;rw[vC];simp only[cN,d8,aX,cE];show wpAny _ _ ((if(!t.led&&!es.isEmpty)=true then(unsupported "set:maker-not-led":Sem Unit)else pure ())>>=_) _ _ _;rw[Ww];simp only[cN,d8,aX,cE];refine aa (aj ?_);simp only[b9,WT,e1,e2];exact aj hR
 refine aa (hn _ _ _ ?_);dsimp only;refine aa (xi hI rfl (by simp) ?_);have h1:=eI (Obj.mapFields (·.setIfInBounds 0 (rawInt Dz))) hI (GH rfl);refine aa (xi h1 rfl (by simp[Obj.mapFields]) ?_);have h2:=eI (Obj.mapFields (·.setIfInBounds 1 (rawInt ((i:Int)+1)))) h1 (GH rfl);refine aj ⟨_,rfl,aj ?_⟩;refine hQ _ ⟨Dz,?_,xH⟩ ((eC ..).trans (eC ..))
 refine Eq.trans h2 ?_;simp[Obj.mapFields,rawInt]
theorem next_end{I x:Addr}{o:Obj}{es:Array (Int×Value)}{ep:Nat}{t:SetTable}{Q:Option Value->Shared->Prop}(hh:A.handled=none)(W:gI w s.heap x o es ep t)(it:qH w s.heap I x es ep t es.size)
  (hQ:∀h',Heap.ExtBut I s.heap h'->Q none {s with heap:=h'}):wpAny (model prog w) A (pyNext (.ref I)) Q E s:=by
 obtain⟨slot,hI,hb⟩:=it;have hT:s.TypeIs (.ref I) "set_iterator":=⟨_,hI,rfl⟩;have hpz:=Be W.fit;unfold pyNext;refine aa (AF (eZ (name:=Str.ofString "__next__") hT ij (dC ij hT rJ ?_ (uL _))));unfold Builtin.«set_iterator.__next__»;refine aa (aj ?_);dsimp only;refine aa (wpAny_fieldsOf hI rfl ?_);dsimp only[rawInt];refine aa (m:=setEntries x) ?_;unfold setEntries;refine aa (cc W.ho W.hd W.fit (aj ?_));dsimp only;rw[aw (by simp)];have hn:∀(R:Option (Value×Nat)->Shared->Prop)(E':fw)(A':Around),R none s->wpAny (model prog w) A' (setNext x ((slot:Int)).toNat ((es.size:Int)).toNat ((ep:Int)).toNat) R E' s:=by
  intro R E' A' hR;cases Gb:d5 w with
  |true=>
   unfold setNext;refine aa (cc W.ho W.hd W.fit ?_);dsimp only;refine aa (sh ?_);rw[Gb];simp only[dD];rw[aw (by simp)];unfold setWalk;refine aa (aa (cc W.ho W.hd W.fit ?_));dsimp only;refine aa (sh ?_);rw[Gb];simp only[dD];refine aa (C1 (aj (aj ?_)));have hl:(pickOrder ((model prog w).w.params.setOrder x ep) es).size=es.size:=by
    have:=(A2 ((model prog w).w.params.setOrder x ep) es).length_eq
    simpa using this
   simp only[b9];rw[Array.getElem?_eq_none (by rw[hl];exact ay _)];exact hR
  |false=>
   have WT:=hb Gb;unfold setNext;refine aa (cc W.ho W.hd W.fit ?_);dsimp only;refine aa (sh ?_);rw[Gb];simp only[aX,cE];have vC:=W.plain Gb;have Ww:=W.led Gb;show wpAny _ _ (if(!t.plain&&decide (es.size>1))=true then _ else _) _ _ _;rw[vC];simp only[cN,d8,aX,cE];show wpAny _ _ ((if(!t.led&&!es.isEmpty)=true then(unsupported "set:maker-not-led":Sem Unit)else pure ())>>=_) _ _ _;rw[Ww];simp only[cN,d8,aX,cE];refine aa (aj ?_);simp only[b9,WT];rw[Array.getElem?_eq_none (ay _)];exact aj hR
 refine aa (hn _ _ _ ?_);dsimp only;refine aa (xi hI rfl (by simp) ?_);show wpAny _ _ (newExc (.type "StopIteration") []>>=_) _ _ _;refine aa ?_;simp only[newExc,newTuple];refine aa (gy ?_ (by size_fits));refine aa (m:=firstArgMember _ _) (wpAny_of_eq (a:=Value.none) (by first|rfl|(simp only[firstArgMember];rfl)) ?_);refine gy ?_ (by size_fits);simp only[raiseNew];refine aa (wpAny_handled ?_);rw[show A.in1.handled=none from hh];refine aa (aj (wpAny_throw ?_));refine aa (jd (T:="StopIteration") (b:=true) ⟨_,aO _ rfl,rfl⟩ isSubtype_stop ?_);exact aj (hQ _ (((eC ..).extBut.push _).push _))
theorem gI.keep{h h':Heap}{x:Addr}{o:Obj}{es:Array (Int×Value)}{ep:Nat}{t:SetTable}(W:gI w h x o es ep t)(k:∀u,h.get? x=some u->h'.get? x=some u):gI w h' x o es ep t:=
 ⟨k _ W.ho,W.ex,W.hd,W.fit,W.rise,W.led,W.plain⟩
theorem HY{o:Obj}{es:Array (Int×Value)}{ep:Nat}{t:SetTable}(hh:A.handled=none)(I x:Addr)(vE:x≠I):
  Walks prog w A I [I,x] [I] es.size (λi v=>∃e,(orderOf w x es ep)[i]?=some e/\v=e.2) (λi h=>qH w h I x es ep t i/\gI w h x o es ep t) where
 sub:=λb hb=>by simp at hb;simp[hb]
 frame:=λi h h' st hk=>by
  obtain⟨⟨slot,hI,hb⟩,W⟩:=st;exact⟨⟨slot,hk I (by simp) _ hI,hb⟩,W.keep λu e=>hk x (by simp) u e⟩
 item:=λi s Q E hi st hQ=>by
  have hl:i<(orderOf w x es ep).length:=by rw[(nT w x es ep).length_eq];simpa using hi
  refine next_item st.2 st.1 (e:=(orderOf w x es ep)[i]) (ae hl) λh' it' sb=>?_
  exact hQ _ h' s.toks ⟨_,ae hl,rfl⟩ ⟨it',st.2.keep λu e=>(sb.2 x vE).trans e⟩ λb o hb e=>sb.extBut b o (λh=>hb (by simp[h])) e
 done:=λs Q E st hQ=>next_end hh st.2 st.1 λh' Lf=>hQ h' s.toks λb o hb e=>Lf b o (λh=>hb (by simp[h])) e
 self:=λi s Q E st hQ=>by
  obtain⟨⟨slot,hI,hb⟩,W⟩:=st;have hT:s.TypeIs (.ref I) "set_iterator":=⟨_,hI,rfl⟩;refine wpAny_pyIter_slot hT tL (dC tL hT AA ?_ (CT _));show wpAny _ _ (ret (.ref I)) _ _ s;exact aj ⟨_,rfl,"set_iterator",_,hT,ij.lookup,hQ⟩
theorem KZ{x:Addr}{o:Obj}{es:Array (Int×Value)}{ep:Nat}{t:SetTable}{Q:fw}(W:gI w s.heap x o es ep t)
  (hQ:Q (.ref s.heap.objs.size) {s with heap:=s.heap.push {cls:=.type "set_iterator",data:=.fields #[rawInt (0:Nat),rawInt (0:Nat),.ref x,rawInt es.size,rawInt ep]}}):wpAny (model prog w) A (pyIter (.ref x)) Q E s:=by
 have hT:s.TypeIs (.ref x) "set":=⟨o,W.ho,W.ex.1⟩;refine wpAny_pyIter_slot hT F.slot_set_iter (dC F.slot_set_iter hT zc ?_ (F.args_set_iter_1 _));unfold Builtin.«frozenset.__iter__»;refine aa (m:=Builtin.Frozenset.slot0 "__iter__" _) (aa (aj (aj ?_)));dsimp only;refine aa (m:=Builtin.Frozenset.sizeOf x) ?_;unfold Builtin.Frozenset.sizeOf setEntries;refine aa (aa (cc W.ho W.hd W.fit (aj (aj ?_))));dsimp only;refine aa (m:=setDrawn x) ?_;unfold setDrawn;refine aa (cc W.ho W.hd W.fit ?_);dsimp only;refine aa (sh (aj ?_));have hdr:(!d5 w&&(!t.plain&&decide (es.size>1)))=false:=by
  cases hb:d5 w with
  |true=>rfl
  |false=>rw[W.plain hb];rfl
 show wpAny _ _ (if(!d5 w&&(!t.plain&&decide (es.size>1)))=true then _ else _) _ _ _;rw[hdr];simp only[aX,cE];refine aa (aj ?_);refine aa (m:=setEpoch x) ?_;unfold setEpoch;refine aa (cc W.ho W.hd W.fit (aj ?_));dsimp only;refine aa (gy (aj ⟨_,rfl,"set_iterator",_,⟨_,aO _ rfl,rfl⟩,ij.lookup,?_⟩));simpa[rawInt]using hQ
theorem zl{x:Addr}{o:Obj}{es:Array (Int×Value)}{ep:Nat}{t:SetTable}{Q:List Value->Shared->Prop}(hh:A.handled=none)(W:gI w s.heap x o es ep t)(hn:es.size<=sizeLine)
  (hQ:∀h' tk(vs:List Value),s.heap.objs.size<h'.objs.size->(∀b o,s.heap.get? b=some o->h'.get? b=some o)->vs.Perm (es.toList.map (·.2))->Q vs {s with heap:=h',toks:=tk}):
  wpAny (model prog w) A (collect (.ref x)) Q E s:=by
 have lT:x<s.heap.objs.size:=aM W.ho;refine PbC.EI (P:=λi v=>∃e,(orderOf w x es ep)[i]?=some e/\v=e.2) (n:=es.size) ⟨o,W.ho,W.ex.1⟩ (λcY K7 R E' hR=>?_) (λh' tk acc sz k CB=>?_) hn
 ·obtain⟨DQ,rfl⟩:=K7
  have W1:gI w (s.heap.push DQ) x o es ep t:=W.keep λu e=>ak _ e
  refine KZ W1 ?_;have e:(s.heap.push DQ).objs.size=s.heap.objs.size+1:=bT _ _
  show R (.ref (s.heap.push DQ).objs.size) _
  rw[e];refine hR _ ⟨_,HY (o:=o) (t:=t) (by simpa using hh) (s.heap.objs.size+1) x (a0 (fc lT)),⟨⟨0,?_,λ_=>Gw W.rise⟩,?_⟩,?_⟩
  ·rw[<-e];exact aO _ rfl
  ·exact W1.keep λu e=>ak _ e
  ·simp only[aB,xm,or_false,not_or]
   exact⟨a0 (iI _),gx lT⟩
 ·refine hQ h' tk _ sz k ?_
  have hl:acc.toList=(orderOf w x es ep).map (·.2):=by
   refine List.ext_getElem? λi=>?_
   rw[aW]
   by_cases hi:i<acc.size
   ·have h1:acc.toList[i]?=some acc[i]:=by rw[dA];exact fA hi
    obtain⟨e,h2,h3⟩:=CB.2 i acc[i] (fA hi);rw[h1,h2,h3];rfl
   ·have h2:(orderOf w x es ep).length=es.size:=by rw[(nT w x es ep).length_eq];simp
    have hs:=CB.1;rw[jF (by simp;omega),jF (by omega)];rfl
  rw[hl];exact(nT w x es ep).map _
end
theorem xx{α:Type} [DecidableEq α]:∀{m l:List α},m.Nodup->(∀x∈m,x∈l)->l.length=m.length->m.Perm l
 | [],l,_,_,h=>by rw[fN h]
 |a::m,l,hn,hs,hl=>by
  have ha:=hs a ax;rw[bY]at hn;have p:=List.perm_cons_erase ha;refine(List.Perm.cons a (xx hn.2 (λx hx=>?_) ?_)).trans p.symm
  ·exact(jX (λe:x=a=>hn.1 (by rw[<-e];exact hx))).mpr (hs x (ao _ hx))
  ·have:=p.length_eq
   simp only[aq]at this hl;omega
theorem Rb{order:Array Nat}{n:Nat}(h1:order.size=n)(h2:∀i,i∈order.toList↔i<n):coversAll order n=true:=by
 unfold coversAll;rw[List.isPerm_iff];exact(xx kq (λx hx=>(h2 x).mpr (dI.mp hx)) (by simp[h1])).symm
section
variable{prog:Program}{w:World}{A:Around}{E:fw}{s:Shared}
def Rt(e:Int×Value)(k:Int):Prop:=∃t,e.2=.int k t/\e.1=hashInt k
structure ql(es:List (Int×Value))(ks:List Int):Prop where
 ex:∀e∈es,∃k∈ks,Rt e k
 all:∀k∈ks,∃e∈es,Rt e k
 nd:ks.Nodup
 len:es.length=ks.length
def GA(w:World)(h:Heap)(S:Addr)(ks:List Int):Prop:=
 ∃o es ep t,h.get? S=some o/\o.ExactSet/\o.data=.set es ep t/\Tab t (es.toList.map (·.1))/\ql es.toList ks/\(ks.length<=4\/t.mask=31)/\Bt w t
theorem ql.elems{es:List (Int×Value)}{ks:List Int}(N:ql es ks):ElemsOf (intKind prog w) es:=λe he=>by
 obtain⟨k,_,t,h1,h2⟩:=N.ex e he;refine⟨⟨k,?_,h2⟩,?_⟩
 ·rw[h1];exact E1 _ _ _ _
 ·rw[h1];rfl
theorem ql.KW{l l':List (Int×Value)}{ks:List Int}(N:ql l ks)(hm:∀e,e∈l'↔e∈l)(hl:l'.length=l.length):ql l' ks:=
 ⟨λe he=>N.ex e ((hm e).mp he),λk hk=>let⟨e,he,q⟩:=N.all k hk;⟨e,(hm e).mpr he,q⟩,N.nd,hl.trans N.len⟩
theorem ql.more{l:List (Int×Value)}{ks:List Int}(N:ql l ks){k:Int}{t:Tok}(hn:k∉ks):ql ((hashInt k,Value.int k t)::l) (k::ks):=by
 refine⟨λe he=>?_,λk' F6=>?_,bY.mpr ⟨hn,N.nd⟩,by simp[N.len]⟩
 ·rcases aB.mp he with e1|e1
  ·exact⟨k,ax,t,by rw[e1],by rw[e1]⟩
  ·obtain⟨k',h1,h2⟩:=N.ex e e1
   exact⟨k',ao _ h1,h2⟩
 ·rcases aB.mp F6 with e1|e1
  ·exact⟨_,ax,t,by rw[e1],by rw[e1]⟩
  ·obtain⟨e,h1,h2⟩:=N.all k' e1
   exact⟨e,ao _ h1,h2⟩
theorem add_int{S:Addr}{ks:List Int}{k:Int}{tk:Tok}{Q:Bool->Shared->Prop}(hS:GA w s.heap S ks)(hl:ks.length<12)
  (h1:k∈ks->∀b,Q b s)(h2:k∉ks->∀h' b,Heap.SameBut S s.heap h'->GA w h' S (k::ks)->Q b {s with heap:=h'}):
  wpAny (model prog w) A (setAddHashed S (.int k tk) (hashInt k)) Q E s:=by
 obtain⟨o,es,ep,t,ho,hx,hd,B,N,K9,hM⟩:=hS;have hlen:es.size=ks.length:=by have:=N.len;simpa using this
 have hm:es.size+1<=t.mask:=by
  rcases K9 with z|z
  ·have:7<=t.mask:=by rcases B.small with e|e<;>rw[e]<;>decide
   omega
  ·rw[z];omega
 have hf:=fits_of B (by omega);have Tu:ElemsOf (intKind prog w) es.toList:=N.elems;have hb:es.size<scanBound:=by unfold scanBound;omega
 unfold setAddHashed setAddHashedIn;refine dX (aa (cc ho hd hf ?_));dsimp only;rw[byScan_of (knd:=intKind prog w) (x:=.int k tk) rfl hb Tu];simp only[↓reduceIte];unfold setAddByScan;refine aa ?_;refine aa (nq ?_);refine aa (wpAny_setScan_of (knd:=intKind prog w) (k:=k) (E1 _ _ _ _) ho hd hf Tu ?_);have is_iff:∀e∈es.toList,((intKind prog w).is k e.2=true↔Rt e k):=λe he=>by
  obtain⟨k',F6,t',e1,e2⟩:=N.ex e he;constructor
  ·intro q
   rw[e1]at q;have:k=k':=(intKind prog w).inj _ _ _ q (E1 _ _ _ _)
   exact⟨t',by rw[this];exact e1,by rw[this];exact e2⟩
  ·rintro⟨t2,q,_⟩
   rw[q];exact E1 _ _ _ _
 cases hr:List.findIdx? (λe=>(intKind prog w).is k e.2) es.toList with
 |some j=>
  dsimp only;obtain⟨hj,hpj,_⟩:=List.findIdx?_eq_some_iff_getElem.mp hr;have xG:k∈ks:=by
   have gv:es.toList[j]∈es.toList:=bL hj;obtain⟨k',F6,t',e1,e2⟩:=N.ex _ gv;obtain⟨t2,q1,_⟩:=(is_iff _ gv).mp hpj
   rw[e1]at q1;injection q1 with q2
   rw[<-q2];exact F6
  exact aj (aj (h1 xG false))
 |none=>
  dsimp only;have z:k∉ks:=λhk=>by
   obtain⟨e,he,q⟩:=N.all k hk;have:=List.findIdx?_eq_none_iff.mp hr e he;rw[(is_iff e he).mpr q]at this
   cases this
  have hsz:t.place.toList.length=es.toList.length:=by have:=B.size;simpa using this
  obtain⟨fe,WN,WJ⟩:=Bd B.ok (by have:=hsz;simp at this;omega);obtain⟨L,hL,WZ⟩:=ym B.small (hashInt k) WN;have hN:t.slot (walk t.mask (hashInt k) L).j=.empty:=by rw[WZ];exact WJ
  obtain⟨m,_,_,q2,q3⟩:=wF B.ok (λ_=>hashInt k+1) (hashInt k) hN (bp L) hL;obtain⟨q1,q3⟩:t.slot (walk t.mask (hashInt k) m).j=.empty/\t.probe (λ_=>hashInt k+1) (hashInt k) (fY (walk t.mask (hashInt k) 0))=some (.empty (walk t.mask (hashInt k) m).j none):=by
   rcases q3 with z|⟨i,_,_,q,_⟩
   ·exact z
   ·exact absurd (show hashInt k+1=hashInt k from q) (by omega)
  have q2':∀n,n<m->t.slot (walk t.mask (hashInt k) n).j≠ .empty:=λn hn e=>by
   obtain⟨i,e',_⟩:=q2 n (bp _) hn;rw[e]at e';cases e'
  have pZ:t.freeSlot (hashInt k)=some ((walk t.mask (hashInt k) m).j,false):=by
   unfold SetTable.freeSlot;rw[JZ];have:t.probe (λ_=>hashInt k+1) (hashInt k) (fY (start t.mask (hashInt k)))=some (.empty (walk t.mask (hashInt k) m).j none):=q3
   rw[this];rfl
  obtain⟨p,e1,e2,B',em,JK,Dg,Gn,Q6⟩:=GV B (hashInt k) q1 q2';have QQ:layNew t es (hashInt k) (.int k tk)=(SetTable.insertAt es (t.put (walk t.mask (hashInt k) m).j).2 (hashInt k,.int k tk),(t.put (walk t.mask (hashInt k) m).j).1.orStandIn (SetTable.insertAt es (t.put (walk t.mask (hashInt k) m).j).2 (hashInt k,.int k tk)).size,false,!(t.put (walk t.mask (hashInt k) m).j).1.fits (SetTable.insertAt es (t.put (walk t.mask (hashInt k) m).j).2 (hashInt k,.int k tk)).size):=by
   unfold layNew;rw[pZ]
  have WC:(intKind prog w).hash k=hashInt k:=rfl
  rw[QQ];dsimp only;generalize t.put (walk t.mask (hashInt k) m).j=tp at e1 B' em JK Dg Gn Q6
  obtain⟨t1,p1⟩:=tp;dsimp only at e1 B' em JK Dg Gn Q6⊢;subst e1;have hp:p1<=es.size:=by simpa using e2
  have Az:(SetTable.insertAt es p1 (hashInt k,Value.int k tk)).toList=es.toList.take p1++(hashInt k,Value.int k tk)::es.toList.drop p1:=mF _ _ _ hp
  have F8:(SetTable.insertAt es p1 (hashInt k,Value.int k tk)).size=es.size+1:=by
   rw[<-bh,Az];simp;omega
  have RN:Tab t1 ((SetTable.insertAt es p1 (hashInt k,Value.int k tk)).toList.map (·.1)):=by
   rw[Az,aZ,aT,Fg,Fh];exact B'
  have TL:ql (SetTable.insertAt es p1 (hashInt k,Value.int k tk)).toList (k::ks):=
   (N.more (t:=tk) z).KW (λe=>by rw[Az];exact Cp _ _ _ _) (by rw[Az];simp;omega)
  have RM:Bt w t1:=λz=>⟨by rw[Gn];exact(hM z).1,by rw[Dg];exact(hM z).2⟩
  have WO:t1.fits (SetTable.insertAt es p1 (hashInt k,Value.int k tk)).size=true:=fits_of RN (by rw[F8,em];exact hm)
  have QM:t1.orStandIn (SetTable.insertAt es p1 (hashInt k,Value.int k tk)).size=t1:=by unfold SetTable.orStandIn;rw[az WO]
  rw[QM,WO];simp only[cN];refine aa (aj ?_);have fin:wpAny (model prog w) A (do
    storeSet S (SetTable.insertAt es p1 (hashInt k,Value.int k tk)) t1
    if(!false&&t1.tooFull)=true then do
     (match(relayAll t1 (SetTable.insertAt es p1 (hashInt k,Value.int k tk)) (SetTable.grown (SetTable.insertAt es p1 (hashInt k,Value.int k tk)).size)).2.2 with|true=>rule "set.scan.the-table-gave-way"|false=>pure ())
     storeSet S (relayAll t1 (SetTable.insertAt es p1 (hashInt k,Value.int k tk)) (SetTable.grown (SetTable.insertAt es p1 (hashInt k,Value.int k tk)).size)).1 (relayAll t1 (SetTable.insertAt es p1 (hashInt k,Value.int k tk)) (SetTable.grown (SetTable.insertAt es p1 (hashInt k,Value.int k tk)).size)).2.1
     pure (some true)
    else pure (some true)) (λr s'=>r=some true/\Q true s') E s:=by
   generalize SetTable.insertAt es p1 (hashInt k,Value.int k tk)=wN at F8 RN TL WO⊢;refine aa (zP ho hd ?_ (by rw[F8,bo];omega));have sb:=eC s.heap S (Obj.putSet wN t1);have qM:=stored ho hd wN t1;have WL:t1.tooFull=decide ((es.size+1)*5>=t.mask*3):=by
    unfold SetTable.tooFull SetTable.fill;show decide ((t1.place.size+t1.dummies.size)*5>=t1.mask*3)=_;rw[Q6,em,JK];have:t.place.size=es.size:=by have:=B.size;simpa using this
    rw[this];rfl
   rw[WL]
   by_cases pY:(es.size+1)*5>=t.mask*3
   ·rw[aJ pY]
    simp only[mJ,Bool.and_self,dD];have h7:t.mask=7:=by
     rcases B.small with e|e
     ·exact e
     ·rw[e]at pY;omega
    have h4:es.size=4:=by
     rcases K9 with y|y
     ·rw[h7]at pY;omega
     ·rw[h7]at y;cases y
    have h5:wN.size=5:=(by rw[F8,h4]);obtain⟨t',order,e,em',eP,eL,ed,Xb,RP,gv,B2⟩:=Eh (mask:=31) (.inr rfl) t1.finger (t1.movedTo 31) t1.led t1.plain (wN.map (·.1)) (by rw[C8,h5];decide);have er:t1.relaid (wN.map (·.1)) (SetTable.grown 5)=some (t',order):=e;have sz:(wN.map (·.1)).size=5:=by rw[C8,h5]
    rw[sz]at RP gv Xb;have Wy:(order.filterMap (wN[·]?)).toList=order.toList.map λi=>wN.toList.getD i (0,.none):=by
     rw[Array.toList_filterMap];refine Gj λi hi=>?_
     have Ts:=(gv i).mp hi
     have:i<wN.toList.length:=by simp;omega
     rw[<-dA,aE,ae this];rfl
    have hz:(order.filterMap (wN[·]?)).size=wN.size:=by
     rw[<-bh,Wy,ab,bh,RP,h5]
    have UI:∀x,x∈(order.filterMap (wN[·]?)).toList↔x∈wN.toList:=λx=>by
     rw[Wy,aV];constructor
     ·rintro⟨i,hi,rfl⟩
      have Ts:=(gv i).mp hi
      have:i<wN.toList.length:=by simp;omega
      rw[aE,ae this];exact bL _
     ·intro V6
      obtain⟨i,hi,ei⟩:=a8.mp V6;refine⟨i,(gv i).mpr (by simp at hi;omega),?_⟩
      rw[aE,ae hi,ei];rfl
    have hh:(order.filterMap (wN[·]?)).toList.map (·.1)=order.toList.map λi=>(wN.map (·.1)).toList.getD i 0:=by
     rw[Wy,bC];refine gb λi hi=>?_
     have Ts:=(gv i).mp hi
     have:i<wN.toList.length:=by simp;omega
     show(wN.toList.getD i (0,.none)).1=_
     rw[oA,aE,aE,aW,ae this];rfl
    have B3:Tab t' ((order.filterMap (wN[·]?)).toList.map (·.1)):=by rw[hh];exact B2
    have hf3:t'.fits (order.filterMap (wN[·]?)).size=true:=fits_of B3 (by rw[hz,h5,em'];decide)
    have We:relayAll t1 wN (SetTable.grown wN.size)=(order.filterMap (wN[·]?),t',false):=by
     unfold relayAll;rw[h5,er];dsimp only;rw[az (by rw[Rb RP gv,hf3];rfl)]
    rw[We];dsimp only;refine aa (aj ?_);refine aa (zP qM rfl ?_ (by rw[hz,h5,bo];decide));have sb2:=eC (s.heap.update S (Obj.putSet wN t1)) S (Obj.putSet (order.filterMap (wN[·]?)) t');refine aj ⟨rfl,h2 z _ true (sb.trans sb2) ⟨_,_,_,_,stored qM rfl _ _,hx,rfl,B3,TL.KW UI (by rw[bh,bh];exact hz),.inr em',λz=>⟨by rw[eL];exact(RM z).1,by rw[eP];exact(RM z).2⟩⟩⟩
   ·rw[aD pY]
    simp only[mJ,C7,aX,cE];refine aj ⟨rfl,h2 z _ true sb ⟨_,_,_,_,qM,hx,rfl,RN,TL,?_,RM⟩⟩;rcases K9 with y|y
    ·by_cases y2:t.mask=31
     ·exact .inr (by show t1.mask=31;rw[em,y2])
     ·have h7:t.mask=7:=B.small.resolve_right y2
      rw[h7]at pY;exact .inl (by simp;omega)
    ·exact .inr (by show t1.mask=31;rw[em,y])
  have done:wpAny (model prog w) A (do
    storeSet S (SetTable.insertAt es p1 (hashInt k,Value.int k tk)) t1
    if(!false&&t1.tooFull)=true then do
     (match(relayAll t1 (SetTable.insertAt es p1 (hashInt k,Value.int k tk)) (SetTable.grown (SetTable.insertAt es p1 (hashInt k,Value.int k tk)).size)).2.2 with|true=>rule "set.scan.the-table-gave-way"|false=>pure ())
     storeSet S (relayAll t1 (SetTable.insertAt es p1 (hashInt k,Value.int k tk)) (SetTable.grown (SetTable.insertAt es p1 (hashInt k,Value.int k tk)).size)).1 (relayAll t1 (SetTable.insertAt es p1 (hashInt k,Value.int k tk)) (SetTable.grown (SetTable.insertAt es p1 (hashInt k,Value.int k tk)).size)).2.1
     pure (some true)
    else pure (some true)) (λr s'=>wpAny (model prog w) A (match r with|some ad=>pure ad|none=>setAddHashedIn S (.int k tk) (hashInt k) 99999) Q E s') E s:=
   eT fin (λr s'⟨e,q⟩=>by subst e;exact aj q) λ_ _ x=>x
  split
  ·refine aa ?_
   rw[hashByValue_scannable 8 (x:=.int k tk) rfl];refine aj ?_;exact done
  ·refine aa (aj ?_)
   exact done
end
def vv(kt:Nat->Int):Nat->List Int
 |0=>[]
 |i+1=>if kt i∈vv kt i then vv kt i else kt i::vv kt i
theorem D9(kt:Nat->Int):∀(i:Nat)(x:Int),x∈vv kt i↔∃j,j<i/\kt j=x
 |0,x=>by simp[vv]
 |i+1,x=>by
  unfold vv;have ih:=D9 kt i;split
  ·rename_i h
   rw[ih x];constructor
   ·rintro⟨j,h1,h2⟩;exact⟨j,by omega,h2⟩
   ·rintro⟨j,h1,h2⟩
    by_cases e:j=i
    ·rw[<-h2,e];exact(ih (kt i)).mp h
    ·exact⟨j,by omega,h2⟩
  ·rw[aB,ih x]
   constructor
   ·rintro(e|⟨j,h1,h2⟩)
    ·exact⟨i,by omega,e.symm⟩
    ·exact⟨j,by omega,h2⟩
   ·rintro⟨j,h1,h2⟩
    by_cases e:j=i
    ·exact .inl (by rw[<-h2,e])
    ·exact .inr ⟨j,by omega,h2⟩
theorem yI(kt:Nat->Int):∀i,(vv kt i).length<=i
 |0=>ay _
 |i+1=>by
  unfold vv;have:=yI kt i;split
  ·omega
  ·simp only[aq];omega
section
variable{prog:Program}{w:World}{A:Around}{E:fw}{s:Shared}
theorem IZ{h:Heap}{a:Addr}(hg:h.get? a=some {cls:=.type "set",dict:=none,data:=.set #[] 0 (.fresh 0 0 (!d5 w))}):GA w h a []:=
 ⟨_,#[],0,_,hg,⟨rfl,rfl,rfl⟩,rfl,Bb 0 0 _,⟨λe he=>by simp at he,λk hk=>by simp at hk,.nil,rfl⟩,.inl (by simp),λz=>⟨by show(!d5 w)=true;rw[z];rfl,rfl⟩⟩
theorem AE{l:Addr}{items:Array Value}{kt:Nat->Int}{Q:fw}
  (hh:A.handled=none)(hl:s.heap.IsList l items)(hi:∀(i:Nat)(v:Value),items[i]?=some v->∃t,v=.int (kt i) t)(hb:items.size<=12)
  (h:∀(h':Heap)(tk:Nat),GA w h' s.heap.objs.size (vv kt items.size)->
   (∀b o,b<s.heap.objs.size->s.heap.get? b=some o->h'.get? b=some o)->Q (.ref s.heap.objs.size) {s with heap:=h',toks:=tk}):
  wpAny (model prog w) A (call (.type "set") [.ref l]) Q E s:=by
 refine uG (λi h=>GA w h s.heap.objs.size (vv kt i)) hh hl (λh h1 h2=>IZ h1) (λi h h' z k=>?_) (λi v s1 R E' xG UK z hR=>?_) λh' tk z k=>h h' tk z k
 ·obtain⟨o,es,ep,t,ho,r⟩:=z
  exact⟨o,es,ep,t,k _ o (.inl rfl) ho,r⟩
 ·obtain⟨tk,rfl⟩:=hi i v UK
  unfold setAdd;refine dX ?_;refine aa ((intKind prog w).pyHash (k:=kt i) (E1 _ _ _ _) ?_)
  have Tp:(vv kt i).length<12:=by have:=yI kt i;omega
  refine add_int (s:={s1 with toks:=s1.toks+1}) z Tp (λxG b=>?_) λxG h' b La hT=>?_
  ·refine hR s1.heap _ b (lR _) (Heap.SameBut.refl _ _) ?_
   unfold vv;rw[az xG];exact z
  ·refine hR h' _ b (lR _) La ?_
   unfold vv;rw[aw xG];exact hT
theorem GA.xQ{h:Heap}{S:Addr}{ks:List Int}(Z:GA w h S ks)(hl:ks.length<=12):∃o es ep t,gI w h S o es ep t/\ql es.toList ks/\es.size<=12:=by
 obtain⟨o,es,ep,t,ho,hx,hd,B,N,K9,hM⟩:=Z;have hlen:es.size=ks.length:=by have:=N.len;simpa using this
 have hm:es.size<=t.mask:=by
  rcases K9 with z|z
  ·have:7<=t.mask:=by rcases B.small with e|e<;>rw[e]<;>decide
   omega
  ·rw[z];omega
 exact⟨o,es,ep,t,⟨ho,hx,hd,fits_of B hm,B.ok.rise,λz=>(hM z).1,λz=>(hM z).2⟩,N,by omega⟩
theorem xg.xQ{K:Type} [DecidableEq K]{knd:KeyKind prog w K}{V:Value->Prop}{h:Heap}{S:Addr}{ks:List (List K)}(Z:xg knd V h S ks)(hl:ks.length<=12):∃o es ep t,gI w h S o es ep t/\uS knd h es.toList ks/\es.size<=12/\∀e∈es.toList,V e.2:=by
 obtain⟨o,es,ep,t,ho,hx,hd,B,N,K9,hV,hM⟩:=Z;have hlen:es.size=ks.length:=by have:=N.len;simpa using this
 have hm:es.size<=t.mask:=by
  rcases K9 with z|z
  ·have:7<=t.mask:=by rcases B.small with e|e<;>rw[e]<;>decide
   omega
  ·rw[z];omega
 exact⟨o,es,ep,t,⟨ho,hx,hd,fits_of B hm,B.ok.rise,λz=>(hM z).1,λz=>(hM z).2⟩,N,by omega,hV⟩
theorem Ct:∀{vs:List Value}{ks:List Int},(∀v∈vs,∃k∈ks,∃t,v=Value.int k t)->(∀k∈ks,∃v∈vs,∃t,v=Value.int k t)->ks.Nodup->vs.length=ks.length->∃ms,IntsAre vs ms/\ms.Perm ks:=by
 intro vs ks h1 h2 h3 h4;have ex:∀(vs:List Value),(∀v∈vs,∃k t,v=Value.int k t)->∃ms,IntsAre vs ms:=by
  intro vs
  induction vs with
  |nil=>intro _;exact⟨[],.nil⟩
  |cons v vs ih=>
   intro h;obtain⟨k,t,e⟩:=h v ax;obtain⟨ms,q⟩:=ih λv hv=>h v (ao _ hv)
   subst e;exact⟨k::ms,.cons k t q⟩
 obtain⟨ms,hm⟩:=ex vs λv hv=>by obtain⟨k,_,t,e⟩:=h1 v hv;exact⟨k,t,e⟩
 refine⟨ms,hm,?_⟩;have mem:∀{vs:List Value}{ms:List Int},IntsAre vs ms->∀k,(∃v∈vs,∃t,v=Value.int k t)->k∈ms:=by
  intro vs ms q
  induction q with
  |nil=>rintro k ⟨v,hv,_⟩;simp at hv
  |cons n t _ ih=>
   rintro k ⟨v,hv,t',e⟩;rcases aB.mp hv with z|z
   ·rw[z]at e;injection e with e1 _;rw[<-e1];exact ax
   ·exact ao _ (ih k ⟨v,z,t',e⟩)
 exact(xx h3 (λk hk=>mem hm k (h2 k hk)) (by rw[<-hm.length];exact h4)).symm
theorem xX{x:Addr}{ns:List Int}{Q:fw}(OM:ns.length<64)
  (hc:∀(A':Around)(E':fw)(R:List Value->Shared->Prop),A'.handled=A.handled->(∀h' tk vs,s.heap.objs.size<h'.objs.size->(∀b o,s.heap.get? b=some o->h'.get? b=some o)->(∃ms,IntsAre vs ms/\ms.Perm ns)->R vs {s with heap:=h',toks:=tk})->wpAny (model prog w) A' (collect (.ref x)) R E' s)
  (h:∀h' tk D out c jf,(∀b o,s.heap.get? b=some o->h'.get? b=some o)->s.heap.objs.size<=D->h'.get? D=some (seqObj "list" out c)->IntsAre out.toList jf->jf.Perm ns->jf.Pairwise (· <= ·)->Q (.ref D) {s with heap:=h',toks:=tk}):
  wpAny (model prog w) A (call (.builtin "sorted") [.ref x]) Q E s:=by
 refine zL kind_sorted plain_sorted entry_sorted (args_sorted1 _) ?_;unfold Builtin.«sorted»;refine aa (m:=checkCount "sorted" 1 1 _) (aj ?_);refine aa (hc _ _ _ rfl λh' tk vs sz k⟨ms,hi,hp⟩=>?_);have hlv:vs.length=ns.length:=by rw[hi.length,hp.length_eq]
 refine aa (Mo ?_ (by rw[bo];omega));have NI:(h'.push (seqObj "list" vs.toArray 0)).get? h'.objs.size=some (seqObj "list" vs.toArray 0):=aO _ rfl
 show wpAny _ _ _ _ _ {s with heap:=h'.push (seqObj "list" vs.toArray 0),toks:=tk};refine aa (dX (dC slot_list_sort ⟨_,NI,rfl⟩ entry_list_sort (list_sort_tree NI hi (by omega) λout jf a1 a2 a3=>⟨_,rfl,?_⟩) (args_list_sort _)));obtain⟨c,QW⟩:=sortedHeap_at (vs:=vs) (out:=out) NI;refine aj ⟨_,rfl,h _ tk h'.objs.size out c jf (λb o e=>?_) (gZ sz) QW a1 (a2.trans hp) a3⟩;have hb:=aM (k b o e);rw[sortedHeap_old (a0 hb) (by rw[bT];exact fc hb)];exact ak _ (k b o e)
end
end PbSet
namespace L2
open PySem PySem.Spec PyProof.Rows
abbrev Key:=Sum Int Str
def A8:Key->Value->Bool
 | .inl k,v=>Value.isInt k v
 | .inr x,v=>Value.isStrOf x v
def VS(w:World):Key->Int
 | .inl k=>hashInt k
 | .inr x=>hashStr w x
theorem fX:∀{k:Key}{v:Value},A8 k v=true->(∃i t,k=Sum.inl i/\v=Value.int i t)\/(∃x t,k=Sum.inr x/\v=Value.str x t)
 | .inl i,v,h=>by
  obtain⟨t,e⟩:=Value.isInt_shape (k:=i) (v:=v) h;exact .inl ⟨i,t,rfl,e⟩
 | .inr x,v,h=>by
  obtain⟨t,e⟩:=Value.isStrOf_shape (x:=x) (v:=v) h;exact .inr ⟨x,t,rfl,e⟩
theorem IH(i:Int)(t:Tok):A8 (.inl i) (.int i t)=true:=by simp[A8,Value.isInt]
theorem IG(x:Str)(t:Tok):A8 (.inr x) (.str x t)=true:=by simp[A8,Value.isStrOf]
theorem QC(a b:Int):decide ((Sum.inl a:Key)=Sum.inl b)=(a==b):=by
 by_cases e:a=b
 ·subst e;simp
 ·have h:¬(Sum.inl a:Key)=Sum.inl b:=λq=>e (Sum.inl.inj q)
  rw[aD h];exact(d4.mpr e).symm
theorem Qz(a b:Str):decide ((Sum.inr a:Key)=Sum.inr b)=decide (a=b):=by
 by_cases e:a=b
 ·subst e;simp
 ·have h:¬(Sum.inr a:Key)=Sum.inr b:=λq=>e (Sum.inr.inj q)
  rw[aD h,aD e]
theorem QB(a:Int)(b:Str):decide ((Sum.inl a:Key)=Sum.inr b)=false:=aD (λq=>nomatch q)
theorem QA(a:Str)(b:Int):decide ((Sum.inr a:Key)=Sum.inl b)=false:=aD (λq=>nomatch q)
def d9(prog:Program)(w:World):PySem.KeyKind prog w Key where
 is:=A8
 hash:=VS w
 inj:=λv a b ha hb=>by
  rcases fX ha with⟨i,t,rfl,rfl⟩|⟨x,t,rfl,rfl⟩
  ·rcases fX hb with⟨j,u,rfl,e⟩|⟨y,u,rfl,e⟩
   ·injection e with e1 _;rw[e1]
   ·exact nomatch e
  ·rcases fX hb with⟨j,u,rfl,e⟩|⟨y,u,rfl,e⟩
   ·exact nomatch e
   ·injection e with e1 _;rw[e1]
 byValue:=λk v h=>by
  rcases fX h with⟨i,t,rfl,rfl⟩|⟨x,t,rfl,rfl⟩<;>rfl
 pyHash:=λhv h=>by
  rcases fX hv with⟨i,t,rfl,rfl⟩|⟨x,t,rfl,rfl⟩
  ·exact wpAny_pyHash_int h
  ·exact wpAny_pyHash_str h
 eqBool:=λhu hv h=>by
  rcases fX hu with⟨i,t,rfl,rfl⟩|⟨x,t,rfl,rfl⟩
  ·rcases fX hv with⟨j,u,rfl,rfl⟩|⟨y,u,rfl,rfl⟩
   ·rw[QC]at h;exact wpAny_eqBool_int h
   ·rw[QB]at h;exact SeqAt.EqAt.int_str i t y u _ _ _ _ h
  ·rcases fX hv with⟨j,u,rfl,rfl⟩|⟨y,u,rfl,rfl⟩
   ·rw[QA]at h;exact SeqAt.EqAt.str_int x t j u _ _ _ _ h
   ·rw[Qz]at h;exact wpAny_eqBool_str h
 «strs»:=λk x t v h=>by
  rcases fX h with⟨i,u,rfl,e⟩|⟨y,u,rfl,e⟩
  ·exact nomatch e
  ·injection e with e1 _
   subst e1;cases v<;>rfl
theorem D8(prog:Program)(w:World)(i:Int)(t:Tok):(d9 prog w).is (.inl i) (.int i t)=true:=IH i t
theorem D7(prog:Program)(w:World)(x:Str)(t:Tok):(d9 prog w).is (.inr x) (.str x t)=true:=IG x t
inductive V where
 |fL|bl (b:Bool)|int (i:Int)|str (x:Str)|EO (b:Array UInt8)|TR (b:UInt64)|ref (a:Addr)|ty (n:String)
 deriving DecidableEq
def RelV:V->Value->Prop
 | .fL,u=>u=Value.none
 | .bl b,u=>u=Value.bool b
 | .int i,u=>∃t,u=Value.int i t
 | .str x,u=>∃t,u=Value.str x t
 | .EO b,u=>∃t,u=Value.bytes b t
 | .TR b,u=>∃t,u=Value.float b t
 | .ref a,u=>u=Value.ref a
 | .ty n,u=>u=Value.type n
abbrev Vals:List V->List Value->Prop:=Paired RelV
theorem Vals.length{xs:List V}{us:List Value}(r:Vals xs us):xs.length=us.length:=j8 r
theorem Vals.get:∀{xs:List V}{us:List Value}{i:Nat}{x:V},Vals xs us->xs[i]?=some x->∃u,us[i]?=some u/\RelV x u
 |_,_,_,_,.nil,e=>by simp at e
 |_,_,0,_,.cons r _,e=>by simp at e;subst e;exact⟨_,rfl,r⟩
 |_,_,i+1,x,.cons _ t,e=>by
  obtain⟨u,h1,h2⟩:=Vals.get (i:=i) (x:=x) t (by simpa using e);exact⟨u,by simpa using h1,h2⟩
theorem Vals.append:∀{xs ys:List V}{us ws:List Value},Vals xs us->Vals ys ws->Vals (xs++ys) (us++ws)
 |_,_,_,_,.nil,s=>s
 |_,_,_,_,.cons r t,s=>.cons r (Vals.append t s)
theorem Vals.take:∀{xs:List V}{us:List Value}(n:Nat),Vals xs us->Vals (xs.take n) (us.take n)
 |_,_,0,_=>.nil
 |_,_,_+1,.nil=>.nil
 |_,_,n+1,.cons r t=>.cons r (Vals.take n t)
theorem Vals.drop:∀{xs:List V}{us:List Value}(n:Nat),Vals xs us->Vals (xs.drop n) (us.drop n)
 |_,_,0,r=>r
 |_,_,_+1,.nil=>.nil
 |_,_,n+1,.cons _ t=>Vals.drop n t
def oR:Option V->Option Value->Prop
 |some v,some u=>RelV v u
 |none,none=>True
 |_,_=>False
def KV{κ:Type}:List (κ×V)->List (κ×Value)->Prop:=Paired λ(p:κ×V)(q:κ×Value)=>p.1=q.1/\RelV p.2 q.2
def kV:Key->V
 | .inl i=>.int i
 | .inr x=>.str x
inductive HO where
 |lst (xs:List V)
 |tup (xs:List V)
 |dK (bJ:List (Key×V))|dT (bJ:List (List Key×V))
 |set (S:Int->Bool) (n:Nat)
 |ins (C dx:Addr) (fs:List (Str×V))
 |own (x:Addr)
 |xd (fs:List (Str×V))
 |met (f x:Addr)
 |Vq (lo hi:Int)
 |iV (o:Obj) (u:HO)
 |tI (ps:Array Value)
 |ext (φ:Heap->Prop)
abbrev Hp:=Addr->Option HO
def upd(H:Hp)(a:Addr)(o:HO):Hp:=λb=>if b=a then some o else H b
theorem ai{H:Hp}{a:Addr}{o:HO}:upd H a o a=some o:=by unfold upd;rw[az rfl]
theorem aG{H:Hp}{a b:Addr}{o:HO}(h:b≠a):upd H a o b=H b:=by unfold upd;rw[aw h]
theorem Ms{H:Hp}{a:Addr}{o u:HO}:upd (upd H a o) a u=upd H a u:=by
 funext b;unfold upd;split<;>rfl
theorem cF{H:Hp}{a b:Addr}{o u:HO}(h:H a=some o)(h':H b=some u)(d:o≠u):a≠b:=by
 intro e;subst e;rw[h]at h';exact d (bw h')
theorem aR{H:Hp}{a b:Addr}{o:HO}(h:H a=some o)(h':H b=none):a≠b:=by
 intro e;subst e;rw[h]at h';cases h'
section
variable(P:Program)(w:World)
def fz(H:Hp)(h:Heap)(a:Addr):HO->Prop
 | .lst xs=>xs.length<=sizeLine/\∃(bU:List Value)(n:Nat),Vals xs bU/\h.get? a=some {cls:=.type "list",data:=.seq bU.toArray n}
 | .tup xs=>xs.length<=sizeLine/\∃bU:List Value,Vals xs bU/\IsTup h a bU.toArray
 | .dK bJ=>bJ.length<=sizeLine/\(a==sysModules)=false/\∃vs,KV bJ vs/\h.DictOf (d9 P w) a vs
 | .dT bJ=>bJ.length<=sizeLine/\(a==sysModules)=false/\∃xs:List (List Key×Addr×Value),
   Paired (λ(p:List Key×V)(q:List Key×Addr×Value)=>p.1=q.1/\H q.2.1=some (.tup (p.1.map kV))/\RelV p.2 q.2.2) bJ xs/\
   ∃o es ep,h.get? a=some o/\o.ExactDict/\o.data=.dict es ep/\es.toList=xs.map (entryOfKey (tupleKind (d9 P w)))/\(xs.map (·.1)).Nodup
 | .set S n=>h.SetOf (intKind P w) a S n
 | .ins C dx fs=>H dx=some (.own a)/\fs.length<=1000/\dx≠a/\h.get? a=some (PySem.W.instObj C dx)/\
   ∃mA,h.Ns1 dx mA/\(∀f,oR (fs.lookup f) (mA f))/\PySem.Within mA (fs.map (·.1))
 | .own _=>∃o,h.get? a=some o
 | .xd fs=>∃mA,h.Ns1 a mA/\∀f,oR (fs.lookup f) (mA f)
 | .Vq lo hi=>∃t u v,h.get? a=some {cls:=.type "range",data:=.fields #[.int lo t,.int hi u,.int 1 v]}
 | .iV o u=>h.get? a=some o/\fz H h a u
 | .tI ps=>h.get? a=some {cls:=.none,data:=.fields ps}
 | .met f x=>h.get? a=some (PySem.W.methodObj (.ref f) (.ref x))
 | .ext φ=>φ h/\(∃o,h.get? a=some o)/\∀h1 h2:Heap,φ h1->(∀o,h1.get? a=some o->h2.get? a=some o)->φ h2
def qI(H:Hp)(h:Heap):Prop:=∀a o,H a=some o->fz P w H h a o
end
section
variable{P:Program}{w:World}{H H':Hp}{h h':Heap}{a:Addr}{o:HO}
theorem fz.lt(x:fz P w H h a o):a<h.objs.size:=by
 cases o with
 |lst xs=>obtain⟨_,_,_,_,e⟩:=x;exact aM e
 |tup xs=>obtain⟨_,_,_,p⟩:=x;exact p.lt
 |dK bJ=>obtain⟨_,_,_,_,o,_,_,e,_⟩:=x;exact aM e
 |dT bJ=>obtain⟨_,_,_,_,o,_,_,e,_⟩:=x;exact aM e
 |set S n=>obtain⟨o,_,_,_,e,_⟩:=x;exact aM e
 |ins C dx fs=>obtain⟨_,_,_,e,_⟩:=x;exact aM e
 |own y=>obtain⟨_,e⟩:=x;exact aM e
 |xd fs=>obtain⟨_,⟨_,_,_,e,_⟩,_⟩:=x;exact aM e
 |Vq lo hi=>obtain⟨_,_,_,e⟩:=x;exact aM e
 |iV ob u=>obtain⟨e,_⟩:=x;exact aM e
 |tI ps=>exact aM (show h.get? a=some _ from x)
 |met f y=>exact aM (show h.get? a=some _ from x)
 |ext φ=>obtain⟨_,⟨_,e⟩,_⟩:=x;exact aM e
theorem Paired.Qr{α β:Type}{F G:α->β->Prop}:∀{Qt:List α}{Qs:List β},Paired F Qt Qs->(∀a b,F a b->G a b)->Paired G Qt Qs
 |_,_,.nil,_=>.nil
 |_,_,.cons r t,f=>.cons (f _ _ r) (Paired.Qr t f)
theorem fz.tJ(x:fz P w H h a o)(k:∀b u,(b=a\/H b=some (.own a))->h.get? b=some u->h'.get? b=some u)
  (ho:∀b,H b=some (.own a)->H' b=some (.own a))(ht:∀b xs,H b=some (.tup xs)->H' b=some (.tup xs)):fz P w H' h' a o:=by
 induction o with
 |lst xs=>obtain⟨z,bU,n,r,e⟩:=x;exact⟨z,bU,n,r,k _ _ (.inl rfl) e⟩
 |tup xs=>obtain⟨z,bU,r,ob,e,c⟩:=x;exact⟨z,bU,r,ob,k _ _ (.inl rfl) e,c⟩
 |dK bJ=>obtain⟨z,y,vs,r,ob,es,ep,e,c⟩:=x;exact⟨z,y,vs,r,ob,es,ep,k _ _ (.inl rfl) e,c⟩
 |dT bJ=>
  obtain⟨z,y,xs,r,ob,es,ep,e,c⟩:=x;exact⟨z,y,xs,Paired.Qr r λp q z=>⟨z.1,ht _ _ z.2.1,z.2.2⟩,ob,es,ep,k _ _ (.inl rfl) e,c⟩
 |set S n=>obtain⟨ob,es,ep,t,e,c⟩:=x;exact⟨ob,es,ep,t,k _ _ (.inl rfl) e,c⟩
 |ins C dx fs=>
  obtain⟨d,z,ne,e,mA,⟨od,es,ep,e2,c⟩,r⟩:=x;exact⟨ho _ d,z,ne,k _ _ (.inl rfl) e,mA,⟨od,es,ep,k _ _ (.inr d) e2,c⟩,r⟩
 |own y=>obtain⟨ob,e⟩:=x;exact⟨ob,k _ _ (.inl rfl) e⟩
 |xd fs=>obtain⟨mA,⟨od,es,ep,e,c⟩,r⟩:=x;exact⟨mA,⟨od,es,ep,k _ _ (.inl rfl) e,c⟩,r⟩
 |Vq lo hi=>obtain⟨t,u,v,e⟩:=x;exact⟨t,u,v,k _ _ (.inl rfl) e⟩
 |iV ob u ih=>obtain⟨e,q⟩:=x;exact⟨k _ _ (.inl rfl) e,ih q⟩
 |tI ps=>
  have e:h.get? a=some {cls:=.none,data:=.fields ps}:=x;show h'.get? a=some {cls:=.none,data:=.fields ps};exact k a _ (.inl rfl) e
 |met f y=>
  have e:h.get? a=some (PySem.W.methodObj (.ref f) (.ref y)):=x;show h'.get? a=some (PySem.W.methodObj (.ref f) (.ref y));exact k a _ (.inl rfl) e
 |ext φ=>obtain⟨p,⟨o,e⟩,st⟩:=x;exact⟨st _ _ p λo q=>k _ _ (.inl rfl) q,⟨o,k _ _ (.inl rfl) e⟩,st⟩
theorem qI.lt(x:qI P w H h)(e:H a=some o):a<h.objs.size:=(x a o e).lt
theorem qI.fresh(x:qI P w H h)(e:h.objs.size<=a):H a=none:=by
 cases q:H a with
 |none=>rfl
 |some u=>exact absurd (bA (x.lt q) e) (dJ _)
theorem qI.kept(x:qI P w H h)(k:∀b u,h.get? b=some u->h'.get? b=some u):qI P w H h':=λa o e=>
 (x a o e).tJ (λb u _ q=>k b u q) (λ_ q=>q) λ_ _ q=>q
theorem qI.laid(x:qI P w H h)(k:∀b u,h.get? b=some u->h'.get? b=some u)(hp:h.objs.size<=a)(new:fz P w (upd H a o) h' a o):qI P w (upd H a o) h':=λb u e=>by
 have hn:=x.fresh hp
 by_cases hb:b=a
 ·subst hb;rw[ai]at e;cases e;exact new
 ·rw[aG hb]at e
  exact(x b u e).tJ (λc v _ q=>k c v q) (λc q=>by rw[aG (aR q hn)];exact q) λc xs q=>by rw[aG (aR q hn)];exact q
end
def Rd(H:Hp)(a:Addr)(u:HO):Prop:=H a=some u\/∃o,H a=some (.iV o u)
theorem Rd.ok{P:Program}{w:World}{H:Hp}{h:Heap}{a:Addr}{u:HO}(r:Rd H a u)(x:qI P w H h):fz P w H h a u:=by
 rcases r with r|⟨o,r⟩
 ·exact x a u r
 ·obtain⟨_,q⟩:=x a _ r
  exact q
def O1:Option HO->Prop
 |some (.lst _)=>True
 |some (.dK _)=>True
 |some (.dT _)=>True
 |some (.set _ _)=>True
 |some (.ins _ _ _)=>True
 |some (.ext _)=>True
 |_=>False
section
variable{P:Program}{w:World}{H:Hp}{h h':Heap}{x e:Addr}{o':HO}
theorem qI.write(ok:qI P w H h)(mu:O1 (H x))(he:e=x\/H e=some (.own x))(k:∀b u,b≠e->h.get? b=some u->h'.get? b=some u)(RJ:∃u,h'.get? e=some u)
  (new:fz P w (upd H x o') h' x o'):qI P w (upd H x o') h':=λb u q=>by
 have SN:∀c y,H c=some (.own y)->c≠x:=λc y r z=>by subst z;rw[r]at mu;exact mu
 have VA:∀c xs,H c=some (.tup xs)->c≠x:=λc xs r z=>by subst z;rw[r]at mu;exact mu
 by_cases hb:b=x
 ·subst hb;rw[ai]at q;cases q;exact new
 ·rw[aG hb]at q
  by_cases Mh:b=e
  ·have q':H b=some (.own x):=by
    rcases he with z|z
    ·exact absurd (Mh.trans z) hb
    ·rw[Mh];exact z
   rw[q]at q';cases q';obtain⟨v,hv⟩:=RJ;exact⟨v,by rw[Mh];exact hv⟩
  ·refine(ok b u q).tJ (λc v hc r=>k c v ?_ r) (λc r=>by rw[aG (SN c b r)];exact r) λc xs r=>by rw[aG (VA c xs r)];exact r
   rcases hc with rfl|hc
   ·exact Mh
   ·rintro rfl
    rcases he with z|z
    ·exact SN c b hc z
    ·rw[hc]at z;cases z;exact hb rfl
end
structure Un(fs ex:List Addr)(H H':Hp)(h h':Heap):Prop where
 keep:∀b o,h.get? b=some o->H b=none->b∉fs->b∉ex->h'.get? b=some o
 slot:∀b o,h.get? b=some o->H b=none->b∈fs->b∉ex->∃sl,h'.get? b=some {o with slots:=sl}
 free:∀b o,h.get? b=some o->H b=none->b∉ex->H' b=none
 there:∀b o,h.get? b=some o->b∉ex->∃o',h'.get? b=some o'
 lB:∀b xs,H b=some (.tup xs)->H' b=some (.tup xs)
 yY:∀b o u,H b=some (.iV o u)->H' b=some (.iV o u)
 zX:∀b ps,H b=some (.tI ps)->∃more,H' b=some (.tI (ps++more))
section
variable{fs Lq ex ex':List Addr}{H H1 H2:Hp}{h h1 h2 h':Heap}{a x e:Addr}{o:HO}
theorem Un.any(u:Un fs ex H H1 h h1){b:Addr}{ob:Obj}(q:h.get? b=some ob)(n:H b=none)(hx:b∉ex):∃sl,h1.get? b=some {ob with slots:=sl}:=by
 by_cases hb:b∈fs
 ·exact u.slot b ob q n hb hx
 ·exact⟨ob.slots,u.keep b ob q n hb hx⟩
theorem Un.kept(k:∀b u,h.get? b=some u->h'.get? b=some u):Un fs ex H H h h':=
 ⟨λb ob q _ _ _=>k b ob q,λb ob q _ _ _=>⟨ob.slots,k b ob q⟩,λ_ _ _ n _=>n,λb ob q _=>⟨ob,k b ob q⟩,λ_ _ q=>q,λ_ _ _ q=>q,λ_ ps q=>⟨#[],by rw[q];simp⟩⟩
theorem Un.refl:Un fs ex H H h h:=Un.kept λ_ _ q=>q
theorem Un.laid(k:∀b u,h.get? b=some u->h'.get? b=some u)(hp:h.objs.size<=a)(hn:H a=none):Un fs ex H (upd H a o) h h' where
 keep:=λb u q _ _ _=>k b u q
 slot:=λb u q _ _ _=>⟨u.slots,k b u q⟩
 free:=λb u q n _=>by rw[aG (a0 (bA (aM q) hp))];exact n
 there:=λb u q _=>⟨u,k b u q⟩
 lB:=λb xs q=>by rw[aG (aR q hn)];exact q
 yY:=λb u xs q=>by rw[aG (aR q hn)];exact q
 zX:=λb ps q=>⟨#[],by rw[aG (aR q hn),q];simp⟩
theorem Un.write(mu:O1 (H x))(he:e=x\/H e=some (.own x))(k:∀b u,b≠e->h.get? b=some u->h'.get? b=some u)(RJ:∃u,h'.get? e=some u):Un fs ex H (upd H x o) h h':=by
 have hx:∀b,H b=none->b≠x:=λb n z=>by subst z;rw[n]at mu;exact mu
 have hb:∀b,H b=none->b≠e:=λb n z=>by
  subst z;rcases he with r|r
  ·exact hx b n r
  ·rw[n]at r;cases r
 have hm:∀b u,H b=some u->¬O1 (some u)->b≠x:=λb u q nm z=>by subst z;rw[q]at mu;exact nm mu
 refine⟨λb u q n _ _=>k b u (hb b n) q,λb u q n _ _=>⟨u.slots,k b u (hb b n) q⟩,λb u q n _=>by rw[aG (hx b n)];exact n,λb u q _=>?_,
  λb xs q=>by rw[aG (hm b _ q λz=>z)];exact q,λb u xs q=>by rw[aG (hm b _ q λz=>z)];exact q,λb ps q=>⟨#[],by rw[aG (hm b _ q λz=>z),q];simp⟩⟩
 by_cases Mh:b=e
 ·subst Mh;exact RJ
 ·exact⟨u,k b u Mh q⟩
end
def Ui(h:Heap)(H:Hp):List Addr:=(List.range h.objs.size).filter λa=>(H a).isSome
def Cw(h:Heap)(H:Hp):Heap:=PySem.W.hideAll h (Ui h H)
theorem IQ(h:Heap)(H:Hp):(Cw h H).objs.size=h.objs.size:=PySem.W.hideAll_size _ _
theorem Le{h:Heap}{H:Hp}{b:Addr}{o:Obj}(e:h.get? b=some o)(n:H b=none):(Cw h H).get? b=some o:=
 PySem.W.hideAll_get _ e λhm=>by
  have q:(H b).isSome=true:=(cp.mp hm).2
  rw[n]at q;simp at q
theorem Nq{h:Heap}{H:Hp}{b:Addr}{o:Obj}(e:(Cw h H).get? b=some o):h.get? b=some o/\H b=none:=by
 have e':h.get? b=some o:=PySem.W.of_hideAll (Ui h H) e;refine⟨e',?_⟩;cases q:H b with
 |none=>rfl
 |some x=>
  have hm:b∈Ui h H:=cp.mpr ⟨dI.mpr (aM e'),by simp[q]⟩;have z:(Cw h H).get? b=none:=PySem.W.hideAll_none (Ui h H) hm
  rw[z]at e;cases e
structure Mod(K:c9)(mg:jB)(base:Heap):Prop where
 SV:K.In base
 glob:base.Ns mainGlobals mg
 blt:∃mb,base.Ns builtinsNs mb/\∀x:Str,x≠ "__name__"->mb x=bootBuiltins x
 nolimit:base.NoLimit
structure Cx where
 prog:Program
 w:World
 K:c9
 mg:Str->Option Value
 base:Heap
 A:Around
 N:List Str
 AZ:Shared
 Rq:Hp
 env:Env
 outer:List Env
 stack:List Env
 ex:List Addr
 fn:Str->Bool
 calm:Bool
 pn:List (Addr×Obj)
 xe:Value->Shared->Prop
def Lr(l:List Env):List Addr:=l.filterMap (·.frame)
abbrev Cx.fs(X:Cx):List Addr:=Lr X.outer
def Rm(sc:Scope)(x:Str):Prop:=sc.names.lookup x=some .local\/sc.names.lookup x=some .cell\/sc.names.lookup x=some .free
def Loc(sc:Scope)(x:Str):Prop:=sc.names.lookup x=some .local\/sc.names.lookup x=some .cell
def Look(env:Env)(h:Heap)(m:jB)(x:Str)(u:Value):Prop:=
 (env.kindOf x=some .local/\m x=some u)\/((env.kindOf x=some .cell\/env.kindOf x=some .free)/\∃c,env.cells.lookup x=some c/\h.IsCell c (some u))
structure Cx.Ok(X:Cx):Prop where
 mod:Mod X.K X.mg X.base
 kind:X.env.scope.kind=.function
 glob:X.env.globals=mainGlobals
 blt:X.env.builtins=builtinsNs
 above:X.AZ.heap.objs.size<=X.env.locals
 inj:∀x y c,X.env.cells.lookup x=some c->X.env.cells.lookup y=some c->x=y
 has:∀x,(X.env.kindOf x=some .cell\/X.env.kindOf x=some .free)->∃c,X.env.cells.lookup x=some c
 T6:∀x c,X.fn x=true->X.env.cells.lookup x=some c->X.AZ.heap.objs.size<=c
 hd:X.calm=true->X.A.handled=none
 frames:X.A.frames=some X.stack
 Um:X.stack=X.outer\/(X.stack=X.env::X.outer/\X.env.frame=some X.env.locals)
 UU:∀b∈X.ex,b≠X.env.locals/\∀x c,X.env.cells.lookup x=some c->c≠b
 bs:∀b o,X.base.get? b=some o->X.AZ.heap.get? b=some o/\X.Rq b=none
 LU:X.base.objs.size<=X.AZ.heap.objs.size
 KI:∀b o,X.base.get? b=some o->b∉X.ex
 Lv:∀b∈X.ex,b∉X.fs
 vH:X.AZ.heap.FunFrames X.base X.outer
 OO:∀b∈X.fs,X.Rq b=none
structure Inv(X:Cx)(pins:List (Addr×Obj))(σ:List (Option V))(H:Hp)(s:Shared):Prop where
 ok:X.Ok
 os:s.os=X.AZ.os
 bare:AllBare s.gens
 base:Un X.fs X.ex X.Rq H X.AZ.heap s.heap
 loc:∃m,s.heap.Ns X.env.locals m/\∀(i:Nat)(x:Str)(v:V),X.N[i]?=some x->σ[i]?=some (some v)->Rm X.env.scope x->∃u,RelV v u/\Look X.env s.heap m x u
 cell:∀x c,X.env.cells.lookup x=some c->∃v,s.heap.IsCell c v
 free:H X.env.locals=none
 m6:∀x c,X.env.cells.lookup x=some c->H c=none
 pin:∀p∈X.pn++pins,s.heap.get? p.1=some p.2/\H p.1=none/\p.1≠X.env.locals/\p.1∉X.fs/\∀v,p.2.data≠ .cell v
 dy:qI X.prog X.w H s.heap
 len:σ.length=X.N.length
section
variable{X:Cx}{pins:List (Addr×Obj)}{σ:List (Option V)}{H H':Hp}{s:Shared}{h':Heap}
theorem Cx.Ok.VE(ok:X.Ok){b:Addr}{o:Obj}(e:X.base.get? b=some o):b∉X.fs:=λhb=>by
 have:=(ok.vH.mem hb).1
 rw[e]at this;cases this
theorem Inv.bs(I:Inv X pins σ H s):∀b o,X.base.get? b=some o->s.heap.get? b=some o/\H b=none:=λb o e=>
 ⟨I.base.keep b o (I.ok.bs b o e).1 (I.ok.bs b o e).2 (I.ok.VE e) (I.ok.KI b o e),I.base.free b o (I.ok.bs b o e).1 (I.ok.bs b o e).2 (I.ok.KI b o e)⟩
theorem Inv.bk(I:Inv X pins σ H s):∀b o,X.base.get? b=some o->s.heap.get? b=some o:=λb o e=>(I.bs b o e).1
theorem Inv.mod(I:Inv X pins σ H s):Mod X.K X.mg X.base:=I.ok.mod
theorem Inv.E6(I:Inv X pins σ H s):X.K.In s.heap:=I.ok.mod.SV.keeps I.bk
theorem Inv.fr(I:Inv X pins σ H s):∃m,Fr X.base X.env.locals s.heap m:=
 let⟨m,hn,_⟩:=I.loc
 ⟨m,hn,I.bk,bf I.ok.LU I.ok.above⟩
theorem Inv.lt(I:Inv X pins σ H s):X.env.locals<s.heap.objs.size:=let⟨_,hn,_⟩:=I.loc;hn.lt
theorem Inv.sz(I:Inv X pins σ H s):X.AZ.heap.objs.size<=s.heap.objs.size:=bf I.ok.above (gZ I.lt)
theorem Inv.VD(I:Inv X pins σ H s){a:Addr}(h:s.heap.objs.size<=a):a∉X.fs:=λhb=>by
 obtain⟨_,o,ho,_⟩:=I.ok.vH.mem hb;exact absurd (bA (aM ho) (bf I.sz h)) (dJ _)
theorem Inv.Rc(I:Inv X pins σ H s):∀x c,X.env.cells.lookup x=some c->c≠X.env.locals:=λx c e z=>by
 obtain⟨v,o,ho,hd⟩:=I.cell x c e;obtain⟨m,⟨o',es,ep,qM,Cz,_⟩,_⟩:=I.loc;rw[z,qM]at ho;cases ho;rw[Cz]at hd;cases hd
theorem Inv.vH(I:Inv X pins σ H s):s.heap.FunFrames X.base X.outer:=by
 have all:∀(l:List Env),(∀b∈Lr l,b∈X.fs)->X.AZ.heap.FunFrames X.base l->s.heap.FunFrames X.base l:=by
  intro l
  induction l with
  |nil=>intro _ _;trivial
  |cons env r ih=>
   intro hs hl;obtain⟨hk,⟨L,o,hf,hn,ho,hd⟩,hr⟩:=hl;have hL:L∈X.fs:=hs L (by unfold Lr;rw[iG,hf];exact ax);obtain⟨sl,e⟩:=I.base.slot L o ho (I.ok.OO L hL) hL λz=>I.ok.Lv L z hL
   exact⟨hk,⟨L,_,hf,hn,e,hd⟩,ih (λb hb=>hs b (by unfold Lr;rw[iG,hf];exact ao _ hb)) hr⟩
 exact all X.outer (λ_ hb=>hb) I.ok.vH
theorem Inv.stack(I:Inv X pins σ H s):s.heap.FunFrames X.base X.stack:=by
 rcases I.ok.Um with e|⟨e,hf⟩
 ·rw[e];exact I.vH
 ·rw[e]
  obtain⟨m,hn,_⟩:=I.loc;refine .cons (by rw[I.ok.kind];decide) hf hn ?_ I.vH;exact Heap.get?_none_of_le (bf I.ok.LU I.ok.above)
theorem Inv.Fu(I:Inv X pins σ H s):∀b∈Lr X.stack,b∈X.env.locals::X.fs:=λb hb=>by
 rcases I.ok.Um with e|⟨e,hf⟩
 ·rw[e]at hb;exact ao _ hb
 ·rw[e]at hb
  unfold Lr at hb;rw[iG,hf]at hb;exact hb
theorem Inv.GQ(I:Inv X pins σ H s):∀b∈Lr X.stack,H b=none:=λb hb=>by
 rcases aB.mp (I.Fu b hb)with e|hb
 ·rw[e];exact I.free
 ·obtain⟨_,o,ho,_⟩:=I.ok.vH.mem hb
  exact I.base.free b o ho (I.ok.OO b hb) λz=>I.ok.Lv b z hb
theorem Inv.step{g':Array GenState}{t':Nat}{d':Drawn}{ch:List Addr}(I:Inv X pins σ H s)
  (Mg:∀b∈ch,(b∈X.ex\/X.AZ.heap.objs.size<=b)/\b≠X.env.locals/\(∀x c,X.env.cells.lookup x=some c->c≠b)/\∀p∈X.pn++pins,p.1≠b)
  (keep:∀b o,b≠X.env.locals->b∉X.fs->b∉ch->s.heap.get? b=some o->H b=none->h'.get? b=some o)
  (slot:∀b o,b≠X.env.locals->b∈X.fs->b∉ch->s.heap.get? b=some o->H b=none->∃sl,h'.get? b=some {o with slots:=sl})(free:∀b o,b∉ch->s.heap.get? b=some o->H b=none->H' b=none)
  (there:∀b o,b∉ch->s.heap.get? b=some o->∃o',h'.get? b=some o')
  (lB:∀b xs,H b=some (.tup xs)->H' b=some (.tup xs))(yY:∀b o u,H b=some (.iV o u)->H' b=some (.iV o u))(zX:∀b ps,H b=some (.tI ps)->∃more,H' b=some (.tI (ps++more)))
  (ns:∀m,s.heap.Ns X.env.locals m->h'.Ns X.env.locals m)(dy:qI X.prog X.w H' h')(hg:AllBare g'):
  Inv X pins σ H' {s with heap:=h',gens:=g',drawn:=d',toks:=t'}:=by
 have neL:∀b o,X.AZ.heap.get? b=some o->b≠X.env.locals:=λb o e=>a0 (bA (aM e) I.ok.above)
 have Ux:∀b o,X.AZ.heap.get? b=some o->b∉X.ex->b∉ch:=λb o e hx hb=>by
  rcases(Mg b hb).1 with z|z
  ·exact hx z
  ·exact absurd (bA (aM e) z) (dJ _)
 have cellK:∀x c,X.env.cells.lookup x=some c->∀v,s.heap.IsCell c v->h'.IsCell c v:=λx c e v⟨o,ho,hd⟩=>by
  have SQ:c∉ch:=λz=>(Mg c z).2.2.1 x c e rfl
  by_cases hc:c∈X.fs
  ·obtain⟨sl,q⟩:=slot c o (I.Rc x c e) hc SQ ho (I.m6 x c e)
   exact⟨_,q,hd⟩
  ·exact⟨o,keep c o (I.Rc x c e) hc SQ ho (I.m6 x c e),hd⟩
 refine⟨I.ok,I.os,hg,⟨λb o e n hb hx=>?_,λb o e n hb hx=>?_,λb o e n hx=>?_,λb o e hx=>?_,λb xs e=>lB b xs (I.base.lB b xs e),λb o xs e=>yY b o xs (I.base.yY b o xs e),λb ps e=>?_⟩,?_,λx c e=>?_,?_,λx c e=>?_,λp hp=>?_,dy,I.len⟩
 ·exact keep b o (neL b o e) hb (Ux b o e hx) (I.base.keep b o e n hb hx) (I.base.free b o e n hx)
 ·obtain⟨sl,e1⟩:=I.base.slot b o e n hb hx
  obtain⟨sl',e2⟩:=slot b _ (neL b o e) hb (Ux b o e hx) e1 (I.base.free b o e n hx);exact⟨sl',e2⟩
 ·obtain⟨o',e1⟩:=I.base.there b o e hx
  exact free b o' (Ux b o e hx) e1 (I.base.free b o e n hx)
 ·obtain⟨o',e1⟩:=I.base.there b o e hx
  exact there b o' (Ux b o e hx) e1
 ·obtain⟨m1,e1⟩:=I.base.zX b ps e
  obtain⟨m2,e2⟩:=zX b _ e1;exact⟨m1++m2,by rw[e2,Array.append_assoc]⟩
 ·obtain⟨m,hn,hl⟩:=I.loc
  refine⟨m,ns m hn,λi x v e1 e2 e3=>?_⟩;obtain⟨u,r,l⟩:=hl i x v e1 e2 e3;refine⟨u,r,?_⟩;rcases l with l|⟨k,c,e,z⟩
  ·exact .inl l
  ·exact .inr ⟨k,c,e,cellK x c e _ z⟩
 ·obtain⟨v,z⟩:=I.cell x c e
  exact⟨v,cellK x c e v z⟩
 ·obtain⟨m,⟨o,_,_,ho,_⟩,_⟩:=I.loc
  exact free _ o (λz=>(Mg _ z).2.1 rfl) ho I.free
 ·obtain⟨v,o,ho,hd⟩:=I.cell x c e
  exact free c o (λz=>(Mg c z).2.2.1 x c e rfl) ho (I.m6 x c e)
 ·obtain⟨e,n,ne,nf,d⟩:=I.pin p hp
  have SQ:p.1∉ch:=λz=>(Mg p.1 z).2.2.2 p hp rfl
  exact⟨keep p.1 p.2 ne nf SQ e n,free p.1 p.2 SQ e n,ne,nf,d⟩
theorem Inv.un{t':Nat}(I:Inv X pins σ H s)(u:Un X.fs [] H H' s.heap h')(dy:qI X.prog X.w H' h'):Inv X pins σ H' {s with heap:=h',toks:=t'}:=by
 obtain⟨m,⟨o,es,ep,ho,r⟩,_⟩:=id I.loc;obtain⟨sl,hL⟩:=u.any ho I.free (by simp);exact I.step (g':=s.gens) (d':=s.drawn) (ch:=[]) (λ_ z=>nomatch z) (λb o _ hb _ e n=>u.keep b o e n hb (by simp)) (λb o _ hb _ e n=>u.slot b o e n hb (by simp)) (λb o _ e n=>u.free b o e n (by simp)) (λb o _ e=>u.there b o e (by simp)) u.lB u.yY u.zX (λm' hm=>by
  obtain⟨o',Hm,OQ,qM,r'⟩:=hm;rw[ho]at qM;cases qM;exact⟨_,Hm,OQ,hL,r'⟩) dy I.bare
theorem Inv.call{g':Array GenState}{t':Nat}{d':Drawn}{ch:List Addr}(I:Inv X pins σ H s)(u:Un (Lr X.stack) ch H H' s.heap h')(dy:qI X.prog X.w H' h')(hg:AllBare g')
  (Mg:∀b∈ch,(b∈X.ex\/X.AZ.heap.objs.size<=b)/\b≠X.env.locals/\(∀x c,X.env.cells.lookup x=some c->c≠b)/\∀p∈X.pn++pins,p.1≠b):
  Inv X pins σ H' {s with heap:=h',gens:=g',drawn:=d',toks:=t'}:=by
 obtain⟨m,⟨o,es,ep,ho,r⟩,_⟩:=id I.loc;obtain⟨sl,hL⟩:=u.any ho I.free λz=>(Mg _ z).2.1 rfl
 exact I.step (ch:=ch) Mg (λb o hL hb hc e n=>u.keep b o e n (λz=>(aB.mp (I.Fu b z)).elim hL hb) hc) (λb o _ _ hc e n=>u.any e n hc) (λb o hc e n=>u.free b o e n hc) (λb o hc e=>u.there b o e hc) u.lB u.yY u.zX (λm' hm=>by
  obtain⟨o',Hm,OQ,qM,r'⟩:=hm;rw[ho]at qM;cases qM;exact⟨_,Hm,OQ,hL,r'⟩) dy hg
theorem Inv.turned{t':Nat}{it:Addr}(I:Inv X pins σ H s)(k:∀b o,b≠it->s.heap.get? b=some o->h'.get? b=some o)(hn:H it=none)(hL:it≠X.env.locals)
  (h1:it∈X.ex\/X.AZ.heap.objs.size<=it)(h2:∀x c,X.env.cells.lookup x=some c->c≠it)(h3:∀p∈X.pn++pins,p.1≠it):Inv X pins σ H {s with heap:=h',toks:=t'}:=by
 have OA:∀b u,H b=some u->b≠it:=λb u e z=>by rw[z,hn]at e;cases e
 refine I.step (g':=s.gens) (d':=s.drawn) (ch:=[it]) (λb hb=>?_) (λb o _ _ hc e _=>k b o (λz=>hc (by simp[z])) e) (λb o _ _ hc e _=>⟨o.slots,k b o (λz=>hc (by simp[z])) e⟩) (λ_ _ _ _ n=>n)
  (λb o hc e=>⟨o,k b o (λz=>hc (by simp[z])) e⟩) (λ_ _ e=>e) (λ_ _ _ e=>e) (λb ps e=>⟨#[],by rw[e];simp⟩) (λm hm=>?_) (λb u e=>?_) I.bare
 ·have e:b=it:=by simpa using hb
  subst e;exact⟨h1,hL,h2,h3⟩
 ·obtain⟨o,es,ep,ho,r⟩:=hm
  exact⟨o,es,ep,k _ o (fZ hL) ho,r⟩
 ·refine(I.dy b u e).tJ (λc v hc q=>k c v ?_ q) (λ_ q=>q) λ_ _ q=>q
  rcases hc with z|z
  ·rw[z];exact OA b u e
  ·exact OA c _ z
theorem Inv.tok(I:Inv X pins σ H s)(t:Nat):Inv X pins σ H {s with toks:=t}:=I.un (h':=s.heap) (t':=t) Un.refl I.dy
theorem Inv.kept{t':Nat}(I:Inv X pins σ H s)(k:∀b u,s.heap.get? b=some u->h'.get? b=some u):Inv X pins σ H {s with heap:=h',toks:=t'}:=I.un (Un.kept k) (I.dy.kept k)
theorem Inv.laid{a:Addr}{o:HO}{t':Nat}(I:Inv X pins σ H s)(k:∀b u,s.heap.get? b=some u->h'.get? b=some u)(hp:s.heap.objs.size<=a)(new:fz X.prog X.w (upd H a o) h' a o):
  Inv X pins σ (upd H a o) {s with heap:=h',toks:=t'}:=I.un (Un.laid k hp (I.dy.fresh hp)) (I.dy.laid k hp new)
theorem Inv.write{x e:Addr}{o:HO}{t':Nat}(I:Inv X pins σ H s)(mu:O1 (H x))(he:e=x\/H e=some (.own x))(k:∀b u,b≠e->s.heap.get? b=some u->h'.get? b=some u)(RJ:∃u,h'.get? e=some u)
  (new:fz X.prog X.w (upd H x o) h' x o):Inv X pins σ (upd H x o) {s with heap:=h',toks:=t'}:=I.un (Un.write mu he k RJ) (I.dy.write mu he k RJ new)
theorem Inv.weak{gO:List (Option V)}(I:Inv X pins σ H s)(hl:gO.length=σ.length)(w:∀(i:Nat)v,gO[i]?=some (some v)->σ[i]?=some (some v)):Inv X pins gO H s:=
 ⟨I.ok,I.os,I.bare,I.base,let⟨m,hn,Tp⟩:=I.loc;⟨m,hn,λi x v e1 e2 e3=>Tp i x v e1 (w i v e2) e3⟩,I.cell,I.free,I.m6,I.pin,I.dy,hl.trans I.len⟩
theorem Inv.GY{Ow:List (Addr×Obj)}(I:Inv X pins σ H s)(h:∀p∈Ow,s.heap.get? p.1=some p.2/\H p.1=none/\p.1≠X.env.locals/\p.1∉X.fs/\∀v,p.2.data≠ .cell v):Inv X Ow σ H s:=
 ⟨I.ok,I.os,I.bare,I.base,I.loc,I.cell,I.free,I.m6,λp hp=>(br.mp hp).elim (λz=>I.pin p (cI _ z)) (h p),I.dy,I.len⟩
theorem yC{N:List Str}(hN:N.Nodup){i j:Nat}{x:Str}(a:N[i]?=some x)(b:N[j]?=some x):i=j:=by
 obtain⟨h1,e1⟩:=aN.mp a;obtain⟨h2,e2⟩:=aN.mp b;exact(Mb hN).mp (e1.trans e2.symm)
theorem AN{M:Model}{A:Around}{E:fw}{i:Nat}{x:Str}{v:V}{u:Value}{Q:Unit->Shared->Prop}(I:Inv X pins σ H s)(hN:X.N.Nodup)(hi:X.N[i]?=some x)(hx:Loc X.env.scope x)(r:RelV v u)
  (h:∀s',Inv X pins (σ.set i (some v)) H s'->(∃a,Heap.SameBut a s.heap s'.heap/\(a=X.env.locals\/X.env.cells.lookup x=some a))->Q () s')(hf:X.fn x=true\/X.env.scope.names.lookup x=some .local:=by first|exact .inl rfl|exact .inr rfl|assumption):wpAny M A (storeName X.env x u) Q E s:=by
 obtain⟨m,hn,hl⟩:=id I.loc;have WS:(X.env.scope.kind== .class||(X.env.scope.kind== .module&&X.env.locals != X.env.globals))=false:=by rw[I.ok.kind];rfl
 have Tq:i<σ.length:=by rw[I.len];exact(aN.mp hi).1
 have Rc:=I.Rc;have tracked:∀{a:Addr}{h':Heap},(∃o,s.heap.get? a=some o/\H a=none)->Heap.SameBut a s.heap h'->qI X.prog X.w H h':=λ{a h'}ha hs b ob e=>by
  obtain⟨_,_,pZ⟩:=ha;refine(I.dy b ob e).tJ (λc w' hc q=>(hs.2 c ?_).trans q) (λ_ q=>q) λ_ _ q=>q
  rintro rfl;rcases hc with rfl|hc
  ·rw[pZ]at e;cases e
  ·rw[pZ]at hc;cases hc
 rcases hx with hk|hk
 ·refine wpAny_storeName_local hk hn (λh' UH hs=>?_) WS
  obtain⟨oL,_,_,NI,_⟩:=id hn;refine h _ ⟨I.ok,I.os,I.bare,⟨λb o e n hb hx=>?_,λb o e n hb hx=>?_,I.base.free,λb o e hx=>?_,I.base.lB,I.base.yY,I.base.zX⟩,⟨_,UH,λj y v' e1 e2 e3=>?_⟩,λy c e=>?_,I.free,I.m6,λp hp=>?_,tracked ⟨oL,NI,I.free⟩ hs,by simpa using I.len⟩ ⟨_,hs,.inl rfl⟩
  ·exact(hs.2 b (a0 (bA (aM e) I.ok.above))).trans (I.base.keep b o e n hb hx)
  ·obtain⟨sl,e1⟩:=I.base.slot b o e n hb hx
   exact⟨sl,(hs.2 b (a0 (bA (aM e) I.ok.above))).trans e1⟩
  ·obtain⟨o',e1⟩:=I.base.there b o e hx
   exact⟨o',(hs.2 b (a0 (bA (aM e) I.ok.above))).trans e1⟩
  ·by_cases hj:j=i
   ·subst hj
    rw[hi]at e1;cases e1;rw[zK Tq]at e2;cases e2;exact⟨u,r,.inl ⟨hk,by simp⟩⟩
   ·rw[C5 (fZ hj)]at e2
    obtain⟨u',r',q⟩:=hl j y v' e1 e2 e3;refine⟨u',r',?_⟩;rcases q with⟨k,e⟩|⟨k,c,e,z⟩
    ·refine .inl ⟨k,?_⟩
     have:y≠x:=λe=>hj (yC hN e1 (e▸hi))
     simp[this,e]
    ·exact .inr ⟨k,c,e,z.sameBut hs (Rc y c e)⟩
  ·obtain⟨w',z⟩:=I.cell y c e
   exact⟨w',z.sameBut hs (Rc y c e)⟩
  ·obtain⟨e,n,ne,nf,d⟩:=I.pin p hp
   exact⟨(hs.2 p.1 ne).trans e,n,ne,nf,d⟩
 ·have WK:X.fn x=true:=by
   rcases hf with z|z
   ·exact z
   ·rw[z]at hk;cases hk
  obtain⟨c,hc⟩:=I.ok.has x (.inl hk);obtain⟨w',z⟩:=I.cell x c hc;refine wpAny_storeName_cell I.ok.kind hk hc z (λh' QW hs=>?_);obtain⟨oc,hoc,Wq⟩:=id z;refine h {s with heap:=h'} ⟨I.ok,I.os,I.bare,⟨λb o e n hb hx=>?_,λb o e n hb hx=>?_,I.base.free,λb o e hx=>?_,I.base.lB,I.base.yY,I.base.zX⟩,⟨m,hn.sameBut hs (fZ (Rc x c hc)),λj y v' e1 e2 e3=>?_⟩,λy c' e=>?_,I.free,I.m6,λp hp=>?_,tracked ⟨oc,hoc,I.m6 x c hc⟩ hs,by simpa using I.len⟩ ⟨c,hs,.inr hc⟩
  ·exact(hs.2 b (a0 (bA (aM e) (I.ok.T6 x c WK hc)))).trans (I.base.keep b o e n hb hx)
  ·obtain⟨sl,e1⟩:=I.base.slot b o e n hb hx
   exact⟨sl,(hs.2 b (a0 (bA (aM e) (I.ok.T6 x c WK hc)))).trans e1⟩
  ·obtain⟨o',e1⟩:=I.base.there b o e hx
   exact⟨o',(hs.2 b (a0 (bA (aM e) (I.ok.T6 x c WK hc)))).trans e1⟩
  ·by_cases hj:j=i
   ·subst hj
    rw[hi]at e1;cases e1;rw[zK Tq]at e2;cases e2;exact⟨u,r,.inr ⟨.inl hk,c,hc,QW⟩⟩
   ·rw[C5 (fZ hj)]at e2
    obtain⟨u',r',q⟩:=hl j y v' e1 e2 e3;refine⟨u',r',?_⟩;rcases q with q|⟨k,c',e,z'⟩
    ·exact .inl q
    ·refine .inr ⟨k,c',e,z'.sameBut hs ?_⟩
     rintro rfl;exact hj (yC hN e1 (I.ok.inj _ _ _ e hc▸hi))
  ·by_cases TB:c'=c
   ·subst TB;exact⟨_,QW⟩
   ·obtain⟨w2,z2⟩:=I.cell y c' e
    exact⟨w2,z2.sameBut hs TB⟩
  ·obtain⟨e,n,ne,nf,d⟩:=I.pin p hp
   refine⟨(hs.2 p.1 ?_).trans e,n,ne,nf,d⟩
   intro q;rw[q,hoc]at e;have q':oc=p.2:=bw e;exact d w' (by rw[<-q'];exact Wq)
theorem xW{M:Model}{A:Around}{E:fw}{i:Nat}{x:Str}{v:V}{u:Value}{Q:Unit->Shared->Prop}(I:Inv X pins σ H s)(hN:X.N.Nodup)(hi:X.N[i]?=some x)(hx:Loc X.env.scope x)(r:RelV v u)
  (h:∀s',Inv X pins (σ.set i (some v)) H s'->Q () s')(hf:X.fn x=true\/X.env.scope.names.lookup x=some .local:=by first|exact .inl rfl|exact .inr rfl|assumption):wpAny M A (storeName X.env x u) Q E s:=
 AN I hN hi hx r (λs' I' _=>h s' I') hf
theorem Inv.T5{s':Shared}{ch:List Addr}(I:Inv X pins σ H s)(ho:s'.os=s.os)(u:Un (Lr X.stack) ch H H' s.heap s'.heap)(dy:qI X.prog X.w H' s'.heap)(hg:AllBare s'.gens)
  (Mg:∀b∈ch,(b∈X.ex\/X.AZ.heap.objs.size<=b)/\b≠X.env.locals/\(∀x c,X.env.cells.lookup x=some c->c≠b)/\∀p∈X.pn++pins,p.1≠b):Inv X pins σ H' s':=by
 obtain⟨h',g',d',t',o'⟩:=s';have e:o'=s.os:=ho;subst e;exact I.call (g':=g') (t':=t') (d':=d') u dy hg Mg
end
abbrev XK:=Value->Option Addr->Hp->Prop
abbrev St:=List (Option V)
abbrev VK:=V->Hp->Prop
abbrev TE:=St->Hp->VK->Prop
abbrev TT:=St->Hp->(Bool->Hp->Prop)->Prop
abbrev TA:=St->Hp->(List V->Hp->Prop)->Prop
structure Ends where
 nx:St->Hp->Prop
 rt:VK
 bk:St->Hp->Prop:=λ_ _=>False
 ct:St->Hp->Prop:=λ_ _=>False
abbrev TS:=Ends->St->Hp->Prop
def EP(X:Cx)(pins:List (Addr×Obj))(σ:St)(Q:VK)(u:Value)(s':Shared):Prop:=∃v H',Inv X pins σ H' s'/\RelV v u/\Q v H'
def TP(X:Cx)(pins:List (Addr×Obj))(σ:St)(Q:Bool->Hp->Prop)(b:Bool)(s':Shared):Prop:=∃H',Inv X pins σ H' s'/\Q b H'
def AP(X:Cx)(pins:List (Addr×Obj))(σ:St)(Q:List V->Hp->Prop)(us:List Value)(s':Shared):Prop:=∃vs H',Inv X pins σ H' s'/\Vals vs us/\Q vs H'
def SP(X:Cx)(pins:List (Addr×Obj))(D:Ends)(f:Flow)(s':Shared):Prop:=
 match f with
 | .next=>∃gO H',Inv X pins gO H' s'/\D.nx gO H'
 | .brk=>∃gO H',Inv X pins gO H' s'/\D.bk gO H'
 | .cont=>∃gO H',Inv X pins gO H' s'/\D.ct gO H'
 | .ret u=>∃v gO H',Inv X pins gO H' s'/\RelV v u/\D.rt v H'
def PE(X:Cx)(e:Expr)(t:TE):Prop:=
 ∀(pins:List (Addr×Obj))(s:Shared)(σ:St)(H:Hp)(Q:VK),Inv X pins σ H s->t σ H Q->wpAny (model X.prog X.w) X.A (eval e X.env) (EP X pins σ Q) X.xe s
def PT(X:Cx)(e:Expr)(t:TT):Prop:=
 ∀(pins:List (Addr×Obj))(s:Shared)(σ:St)(H:Hp)(Q:Bool->Hp->Prop),Inv X pins σ H s->t σ H Q->wpAny (model X.prog X.w) X.A (isTrue e X.env (eval e X.env)) (TP X pins σ Q) X.xe s
def PW(X:Cx)(e:Expr)(t:TT):Prop:=
 ∀(whole:Sem Value)(pins:List (Addr×Obj))(s:Shared)(σ:St)(H:Hp)(Q:Bool->Hp->Prop),Inv X pins σ H s->t σ H Q->wpAny (model X.prog X.w) X.A (isTrue e X.env whole) (TP X pins σ Q) X.xe s
theorem PW.pt{X:Cx}{e:Expr}{t:TT}(h:PW X e t):PT X e t:=h _
def PA(X:Cx)(es:List Expr)(t:TA):Prop:=
 ∀(pos:Pos)(pins:List (Addr×Obj))(s:Shared)(σ:St)(H:Hp)(Q:List V->Hp->Prop),Inv X pins σ H s->t σ H Q->wpAny (model X.prog X.w) X.A (spliced (backTo pos (starEach es X.env))) (AP X pins σ Q) X.xe s
def PS(X:Cx)(st:Stmt)(t:TS):Prop:=
 ∀(pins:List (Addr×Obj))(s:Shared)(σ:St)(H:Hp)(D:Ends),Inv X pins σ H s->t D σ H->wpAny (model X.prog X.w) X.A (exec st X.env) (SP X pins D) X.xe s
def GB(X:Cx)(st:List Stmt)(t:TS):Prop:=
 ∀(pins:List (Addr×Obj))(s:Shared)(σ:St)(H:Hp)(D:Ends),Inv X pins σ H s->t D σ H->wpAny (model X.prog X.w) X.A (execs st X.env) (SP X pins D) X.xe s
theorem eO{α:Type}{t:Sem α}{Q Q':α->Shared->Prop}{M:Model}{A:Around}{E:fw}{s:Shared}(h:wpAny M A t Q E s)(hQ:∀a s,Q a s->Q' a s):wpAny M A t Q' E s:=eT h hQ λ_ _ x=>x
section
variable{X:Cx}
theorem bin{a b:Expr}{ta tb:TE}(ha:PE X a ta)(hb:PE X b tb){pins:List (Addr×Obj)}{s:Shared}{σ:St}{H:Hp}{R:V->V->Hp->Prop}(I:Inv X pins σ H s)(h:ta σ H λx H1=>tb σ H1 λy H2=>R x y H2)
  {α:Type}{Q:α->Shared->Prop}{f:Value->Value->Sem α}
  (hf:∀v u s2 x y H2,Inv X pins σ H2 s2->RelV x v->RelV y u->R x y H2->wpAny (model X.prog X.w) X.A (f v u) Q X.xe s2):
  wpAny (model X.prog X.w) X.A (eval a X.env) (λv cY=>wpAny (model X.prog X.w) X.A (eval b X.env) (λu kC=>wpAny (model X.prog X.w) X.A (f v u) Q X.xe kC) X.xe cY) X.xe s:=by
 refine eO (ha pins s σ H _ I h) λv s1⟨x,H1,I1,r1,q1⟩=>?_
 refine eO (hb pins s1 σ H1 _ I1 q1) λu s2⟨y,H2,I2,r2,q2⟩=>?_
 exact hf v u s2 x y H2 I2 r1 r2 q2
def JX(i:Nat):TE:=λσ H Q=>∃v,σ[i]?=some (some v)/\Q v H
def tC(v:V):TE:=λ_ H Q=>Q v H
theorem P4{i:Nat}{x:Str}{pos:Pos}(hN:X.N[i]?=some x)(hv:Rm X.env.scope x)(hd:(x==("__debug__":Str))=false:=by decide)(Ga:(x==("__classdict__":Str))=false:=by decide):PE X (.Name x pos) (JX i):=by
 intro pins s σ H Q I h;obtain⟨v,e,h⟩:=h;obtain⟨m,hn,hl⟩:=I.loc;obtain⟨u,r,l⟩:=hl i x v hN e hv;have fin:EP X pins σ Q u s:=⟨v,H,I,r,h⟩;rcases l with⟨hk,hm⟩|⟨hk,c,hc,Hi⟩
 ·exact wpAny_Name (wpAny_loadName_local I.ok.kind hk hn hm fin) hd
 ·rcases hk with hk|hk
  ·exact wpAny_Name (wpAny_loadName_cell I.ok.kind hk hc Hi fin) hd
  ·exact wpAny_Name (wpAny_loadName_free I.ok.kind hk hc Hi fin Ga) hd
theorem aC{i j pos}:PE X (.Constant (.int i) j pos) (tC (.int i)):=λ_ _ _ H _ I h=>wpAny_Constant_int ⟨.int i,H,I.tok _,⟨_,rfl⟩,h⟩
theorem jo{b j pos}:PE X (.Constant (.bool b) j pos) (tC (.bl b)):=λ_ _ _ H _ I h=>Constant_bool ⟨.bl b,H,I,rfl,h⟩
theorem FP{j pos}:PE X (.Constant .none j pos) (tC .fL):=λ_ _ _ H _ I h=>Constant_none ⟨.fL,H,I,rfl,h⟩
def Gl(X:Cx)(x:Str):Prop:=X.env.kindOf x=some .globalImplicit
theorem xF{E:fw}{pins:List (Addr×Obj)}{s:Shared}{σ:St}{H:Hp}{x:Str}{u:Value}{pos:Pos}{Q:fw}(I:Inv X pins σ H s)(hg:Gl X x)(hm:X.mg x=some u)(h:Q u s)
  (hd:(x==("__debug__":Str))=false:=by decide):wpAny (model X.prog X.w) X.A (eval (.Name x pos) X.env) Q E s:=
 Calls.Name_function_global I.ok.kind hg (Calls.loadGlobal_global (by rw[I.ok.glob];exact I.mod.glob.keeps I.bk) hm h) hd
theorem pT{E:fw}{pins:List (Addr×Obj)}{s:Shared}{σ:St}{H:Hp}{x:Str}{u:Value}{pos:Pos}{Q:fw}(I:Inv X pins σ H s)(hg:Gl X x)(hm:X.mg x=none)(hv:bootBuiltins x=some u)(h:Q u s)
  (hn:x≠ "__name__":=by decide)(hd:(x==("__debug__":Str))=false:=by decide):wpAny (model X.prog X.w) X.A (eval (.Name x pos) X.env) Q E s:=by
 obtain⟨mb,h1,h2⟩:=I.mod.blt;exact Calls.Name_function_global I.ok.kind hg (Calls.loadGlobal_builtin (by rw[I.ok.glob];exact I.mod.glob.keeps I.bk) hm (by rw[I.ok.blt];exact h1.keeps I.bk) ((h2 x hn).trans hv) h) hd
theorem G2{x:Str}{v:V}{u:Value}{pos:Pos}(hg:Gl X x)(hm:X.mg x=some u)(r:RelV v u)(hd:(x==("__debug__":Str))=false:=by decide):PE X (.Name x pos) (tC v):=
 λ_ _ _ H _ I h=>xF I hg hm ⟨v,H,I,r,h⟩ hd
variable{a b:Expr}{ta tb:TE}{pos:Pos}
def PC(X:Cx)(op:CmpOp)(a b:Expr)(t:TE):Prop:=
 ∀(pins:List (Addr×Obj))(s:Shared)(σ:St)(H:Hp)(Q:VK),Inv X pins σ H s->t σ H Q->
  wpAny (model X.prog X.w) X.A (eval a X.env) (λv cY=>wpAny (model X.prog X.w) X.A (eval b X.env) (λu kC=>wpAny (model X.prog X.w) X.A (compareOp op v u) (EP X pins σ Q) X.xe kC) X.xe cY) X.xe s
theorem D1(b:Expr){op:CmpOp}(h:op≠ .In)(h2:op≠ .NotIn):behindInMarks op b=false:=by
 have e1:(op==CmpOp.In)=false:=by cases op<;>first|rfl|exact absurd rfl h
 have e2:(op==CmpOp.NotIn)=false:=by cases op<;>first|rfl|exact absurd rfl h2
 cases b<;>simp[behindInMarks,e1,e2]
def Vh(ta:TE):TE:=λσ H Q=>ta σ H λx H1=>Q (.bl (decide (x=.fL))) H1
def R6(ta:TE):TE:=λσ H Q=>ta σ H λx H1=>Q (.bl (!decide (x=.fL))) H1
theorem RelV.D0{x:V}{v:Value}(r:RelV x v):(v==Value.none)=decide (x=.fL):=by
 cases x with
 |fL=>cases r;rfl
 |bl _=>cases r;rfl
 |int _=>obtain⟨t,rfl⟩:=r;rfl
 |str _=>obtain⟨t,rfl⟩:=r;rfl
 |EO _=>obtain⟨t,rfl⟩:=r;rfl
 |TR _=>obtain⟨t,rfl⟩:=r;rfl
 |ref _=>cases r;rfl
 |ty _=>cases r;rfl
theorem FQ{j pos'}(ha:PE X a ta):PC X .Is a (.Constant .none j pos') (Vh ta):=by
 intro pins s σ H Q I h;refine eO (ha pins s σ H _ I h) λv s1⟨x,H1,I1,r1,q1⟩=>?_
 exact Constant_none (is_none_gen ⟨.bl _,H1,I1,by rw[r1.D0];rfl,q1⟩)
theorem xA{j pos'}(ha:PE X a ta):PC X .IsNot a (.Constant .none j pos') (R6 ta):=by
 intro pins s σ H Q I h;refine eO (ha pins s σ H _ I h) λv s1⟨x,H1,I1,r1,q1⟩=>?_
 exact Constant_none (isnot_none_gen ⟨.bl _,H1,I1,by rw[r1.D0];rfl,q1⟩)
def tB(t:TE):TT:=λσ H Q=>t σ H λx H1=>∃c,x=.bl c/\Q c H1
theorem P5{op:CmpOp}{t:TE}(h:PC X op a b t)(h1:behindInMarks op b=false:=by first|exact D1 _ (by decide) (by decide)|rfl):PE X (.Compare a [op] [b] pos) t:=λpins s σ H Q I hw=>wpAny_Compare1 (h pins s σ H Q I hw) h1
theorem cS{op:CmpOp}{t:TE}(h:PC X op a b t)(h1:behindInMarks op b=false:=by first|exact D1 _ (by decide) (by decide)|rfl):PT X (.Compare a [op] [b] pos) (tB t):=by
 intro pins s σ H Q I hw;refine wpAny_isTrue_Compare1 (eO (h pins s σ H _ I hw) λv s1 h1=>eO h1 λu s2 h2=>eO h2 λc s3⟨x,H1,I1,r1,q1⟩=>?_) h1;obtain⟨d,rfl,q⟩:=q1;cases r1;exact dG ⟨H1,I1,q⟩
theorem cR{e:Expr}{t:TE}(h:PE X e t)(he:∀whole,isTrue e X.env whole=(do let v <-whole;standAt e.pos;holding [v] (truthy v)):=by intro _;rfl):PT X e (tB t):=by
 intro pins s σ H Q I hw;refine isTrue_plain (eO (h pins s σ H _ I hw) λv s1⟨x,H1,I1,r1,q1⟩=>?_) (he _);obtain⟨d,rfl,q⟩:=q1;cases r1;exact dG ⟨H1,I1,q⟩
variable{tA Ul:TT}{rest:List Expr}
def Sd(t u:TT):TT:=λσ H Q=>t σ H λc H1=>if c=true then u σ H1 Q else Q false H1
def Xz(t u:TT):TT:=λσ H Q=>t σ H λc H1=>if c=true then Q true H1 else u σ H1 Q
def Vf(t:TT):TT:=λσ H Q=>t σ H λc H1=>Q (!c) H1
theorem kP(ha:PT X a tA):PW X (.BoolOp .And [a] pos) tA:=by
 intro wh pins s σ H Q I h;refine isTrue_and (eO (ha pins s σ H Q I h) λc s1 e=>?_);cases c with
 |true=>exact isTrue_and_nil e
 |false=>exact e
theorem mw(ha:PT X a tA):PW X (.BoolOp .Or [a] pos) tA:=by
 intro wh pins s σ H Q I h;refine isTrue_or (eO (ha pins s σ H Q I h) λc s1 e=>?_);cases c with
 |false=>exact isTrue_or_nil e
 |true=>exact e
theorem nL(ha:PT X a tA)(hb:PW X (.BoolOp .And (b::rest) pos) Ul):PW X (.BoolOp .And (a::b::rest) pos) (Sd tA Ul):=by
 intro wh pins s σ H Q I h;refine isTrue_and (eO (ha pins s σ H _ I h) λc s1⟨H1,I1,q1⟩=>?_);cases c with
 |true=>exact hb wh pins s1 σ H1 Q I1 q1
 |false=>exact⟨H1,I1,q1⟩
theorem mS(ha:PT X a tA)(hb:PW X (.BoolOp .Or (b::rest) pos) Ul):PW X (.BoolOp .Or (a::b::rest) pos) (Xz tA Ul):=by
 intro wh pins s σ H Q I h;refine isTrue_or (eO (ha pins s σ H _ I h) λc s1⟨H1,I1,q1⟩=>?_);cases c with
 |true=>exact⟨H1,I1,q1⟩
 |false=>exact hb wh pins s1 σ H1 Q I1 q1
theorem cZ(ha:PT X a tA):PT X (.UnaryOp .Not a pos) (Vf tA):=by
 intro pins s σ H Q I h;exact isTrue_not (ha pins s σ H (λc H1=>Q (!c) H1) I h)
def GO(ta tb:TE):TE:=λσ H Q=>ta σ H λx H1=>∃c,x=.bl c/\if c=true then tb σ H1 Q else Q (.bl false) H1
def R4(ta tb:TE):TE:=λσ H Q=>ta σ H λx H1=>∃c,x=.bl c/\if c=true then Q (.bl true) H1 else tb σ H1 Q
def R5(ta:TE):TE:=λσ H Q=>ta σ H λx H1=>∃c,x=.bl c/\Q (.bl (!c)) H1
theorem nQ{op}{t:TE}(h:PE X a t):PE X (.BoolOp op [a] pos) t:=λpins s σ H Q I hw=>BoolOp_one (h pins s σ H Q I hw)
theorem pI(ha:PE X a ta)(hb:PE X (.BoolOp .And (b::rest) pos) tb):PE X (.BoolOp .And (a::b::rest) pos) (GO ta tb):=by
 intro pins s σ H Q I h;refine BoolOp_and (eO (ha pins s σ H _ I h) λv s1⟨x,H1,I1,r1,q1⟩=>?_);obtain⟨c,rfl,q1⟩:=q1;cases r1;refine dG ?_;cases c with
 |true=>exact hb pins s1 σ H1 Q I1 q1
 |false=>exact⟨.bl false,H1,I1,rfl,q1⟩
theorem Ox(ha:PE X a ta)(hb:PE X (.BoolOp .Or (b::rest) pos) tb):PE X (.BoolOp .Or (a::b::rest) pos) (R4 ta tb):=by
 intro pins s σ H Q I h;refine BoolOp_or (eO (ha pins s σ H _ I h) λv s1⟨x,H1,I1,r1,q1⟩=>?_);obtain⟨c,rfl,q1⟩:=q1;cases r1;refine dG ?_;cases c with
 |false=>exact hb pins s1 σ H1 Q I1 q1
 |true=>exact⟨.bl true,H1,I1,rfl,q1⟩
theorem Kn(ha:PE X a ta):PE X (.UnaryOp .Not a pos) (R5 ta):=by
 intro pins s σ H Q I h;refine UnaryOp_ (eO (ha pins s σ H _ I h) λv s1⟨x,H1,I1,r1,q1⟩=>?_);obtain⟨c,rfl,q1⟩:=q1;cases r1;exact not_of (dG ⟨.bl (!c),H1,I1,rfl,q1⟩)
def XQ(t:TT)(ta tb:TE):TE:=λσ H Q=>t σ H λc H1=>if c=true then ta σ H1 Q else tb σ H1 Q
theorem yt{c:Expr}(hc:PT X c tA)(ha:PE X a ta)(hb:PE X b tb):PE X (.IfExp c a b pos) (XQ tA ta tb):=by
 intro pins s σ H Q I h;refine wpAny_IfExp (eO (hc pins s σ H _ I h) λd s1⟨H1,I1,q1⟩=>?_);cases d with
 |true=>exact ha pins s1 σ H1 Q I1 q1
 |false=>exact hb pins s1 σ H1 Q I1 q1
end
def cG(K:c9)(H:Hp)(a:Addr)(xs:List V):Prop:=
 Rd H a (.lst xs)\/
  ∃(o:Obj)(bU:Array Value)(n:Nat),K.lookup a=some o/\o.cls=.type "list"/\o.dict=none/\o.data=.seq bU n/\bU.size<=sizeLine/\Vals xs bU.toList
def c8(K:c9)(H:Hp)(a:Addr)(xs:List V):Prop:=
 Rd H a (.tup xs)\/
  ∃(o:Obj)(bU:Array Value)(n:Nat),K.lookup a=some o/\o.cls=.type "tuple"/\o.data=.seq bU n/\bU.size<=sizeLine/\Vals xs bU.toList
def Xp:Value->Option V
 | .none=>some .fL
 | .bool b=>some (.bl b)
 | .int i _=>some (.int i)
 | .str x _=>some (.str x)
 | .bytes b _=>some (.EO b)
 | .float b _=>some (.TR b)
 | .ref a=>some (.ref a)
 | .type n=>some (.ty n)
 |_=>none
theorem RelV.abs{x:V}{u:Value}(r:RelV x u):Xp u=some x:=by
 cases x with
 |fL=>cases r;rfl
 |bl _=>cases r;rfl
 |int _=>obtain⟨t,rfl⟩:=r;rfl
 |str _=>obtain⟨t,rfl⟩:=r;rfl
 |EO _=>obtain⟨t,rfl⟩:=r;rfl
 |TR _=>obtain⟨t,rfl⟩:=r;rfl
 |ref _=>cases r;rfl
 |ty _=>cases r;rfl
theorem RelV.inj{x y:V}{u:Value}(r:RelV x u)(q:RelV y u):x=y:=bw (r.abs.symm.trans q.abs)
theorem Vals.inj:∀{xs ys:List V}{us:List Value},Vals xs us->Vals ys us->xs=ys
 |_,_,_,.nil,.nil=>rfl
 |_,_,_,.cons r t,.cons r' t'=>by rw[r.inj r',Vals.inj t t']
section
variable{X:Cx}{pins:List (Addr×Obj)}{σ:St}{H:Hp}{s:Shared}{a:Addr}{xs ys:List V}
theorem cG.of{K:c9}(h:H a=some (.lst xs)):cG K H a xs:=.inl (.inl h)
theorem c8.of{K:c9}(h:H a=some (.tup xs)):c8 K H a xs:=.inl (.inl h)
theorem Inv.list(I:Inv X pins σ H s)(h:cG X.K H a xs):∃bU:List Value,Vals xs bU/\PlainL s.heap a bU.toArray/\xs.length<=sizeLine:=by
 rcases h with h|⟨o,bU,n,hk,hc,hd,hs,hz,r⟩
 ·obtain⟨z,bU,n,r,e⟩:=h.ok I.dy
  exact⟨bU,r,⟨_,n,e,rfl,rfl,rfl⟩,z⟩
 ·refine⟨bU.toList,r,⟨o,n,I.E6 a o hk,hc,hd,by simpa using hs⟩,?_⟩
  have e:=r.length;simp only[bh]at e;omega
theorem Inv.tuple(I:Inv X pins σ H s)(h:c8 X.K H a xs):∃bU:List Value,Vals xs bU/\IsTup s.heap a bU.toArray/\xs.length<=sizeLine:=by
 rcases h with h|⟨o,bU,n,hk,hc,hs,hz,r⟩
 ·obtain⟨z,bU,r,p⟩:=h.ok I.dy
  exact⟨bU,r,p,z⟩
 ·refine⟨bU.toList,r,⟨o,I.E6 a o hk,hc,n,by simpa using hs⟩,?_⟩
  have e:=r.length;simp only[bh]at e;omega
theorem Inv.pR(I:Inv X pins σ H s)(h:cG X.K H a xs)(h':cG X.K H a ys):xs=ys:=by
 obtain⟨bU,r,⟨o,n,e,_,_,d⟩,_⟩:=I.list h;obtain⟨its',r',⟨o',n',e',_,_,d'⟩,_⟩:=I.list h';rw[e]at e';cases e';rw[d]at d';injection d' with d1 _
 have:bU=its':=by simpa using gW Array.toList d1
 subst this;exact r.inj r'
theorem Inv.HM(I:Inv X pins σ H s)(h:c8 X.K H a xs)(h':c8 X.K H a ys):xs=ys:=by
 obtain⟨bU,r,⟨o,e,_,n,d⟩,_⟩:=I.tuple h;obtain⟨its',r',⟨o',e',_,n',d'⟩,_⟩:=I.tuple h';rw[e]at e';cases e';rw[d]at d';injection d' with d1 _
 have:bU=its':=by simpa using gW Array.toList d1
 subst this;exact r.inj r'
end
abbrev Cx.zV(X:Cx)(E:fw):Cx:={X with xe:=E}
abbrev Cx.Ql(X:Cx):Cx:=X.zV λ_ _=>False
theorem Cx.Ok.zV{X:Cx}(ok:X.Ok)(E:fw):(X.zV E).Ok:=
 ⟨ok.mod,ok.kind,ok.glob,ok.blt,ok.above,ok.inj,ok.has,ok.T6,ok.hd,ok.frames,ok.Um,ok.UU,ok.bs,ok.LU,ok.KI,ok.Lv,ok.vH,ok.OO⟩
theorem Cx.Ok.o6{X:Cx}{E:fw}(ok:(X.zV E).Ok):X.Ok:=
 ⟨ok.mod,ok.kind,ok.glob,ok.blt,ok.above,ok.inj,ok.has,ok.T6,ok.hd,ok.frames,ok.Um,ok.UU,ok.bs,ok.LU,ok.KI,ok.Lv,ok.vH,ok.OO⟩
section
variable{X:Cx}{pins:List (Addr×Obj)}{σ:St}{H:Hp}{s:Shared}{E:fw}
theorem Inv.zV(I:Inv X pins σ H s)(E:fw):Inv (X.zV E) pins σ H s:=⟨I.ok.zV E,I.os,I.bare,I.base,I.loc,I.cell,I.free,I.m6,I.pin,I.dy,I.len⟩
theorem Inv.o6(I:Inv (X.zV E) pins σ H s):Inv X pins σ H s:=⟨I.ok.o6,I.os,I.bare,I.base,I.loc,I.cell,I.free,I.m6,I.pin,I.dy,I.len⟩
theorem SP.o6{D:Ends}{f:Flow}{s':Shared}(h:SP (X.zV E) pins D f s'):SP X pins D f s':=by
 cases f with
 |next=>obtain⟨gO,H',I,q⟩:=h;exact⟨gO,H',I.o6,q⟩
 |brk=>obtain⟨gO,H',I,q⟩:=h;exact⟨gO,H',I.o6,q⟩
 |cont=>obtain⟨gO,H',I,q⟩:=h;exact⟨gO,H',I.o6,q⟩
 |ret u=>obtain⟨v,gO,H',I,r,q⟩:=h;exact⟨v,gO,H',I.o6,r,q⟩
theorem GB.Ql{st:List Stmt}{t:TS}(h:GB X.Ql st t):GB X st t:=λpins s σ H D I hw=>
 eT (h pins s σ H D (I.zV _) hw) (λ_ _ q=>q.o6) λ_ _ z=>False.elim z
end
section
variable{X:Cx}{st:Stmt}{rest:List Stmt}{t u:TS}{e:Expr}{te:TE}{pos:Pos}
def xV:TS:=λD σ H=>D.nx σ H
def RZ(t u:TS):TS:=λD σ H=>t {D with nx:=u D} σ H
theorem aQ:GB X [] xV:=λ_ _ σ H _ I h=>Fd ⟨σ,H,I,h⟩
theorem af(h1:PS X st t)(h2:GB X rest u):GB X (st::rest) (RZ t u):=by
 intro pins s σ H D I h;refine wpAny_execs_cons (eO (h1 pins s σ H {D with nx:=u D} I h) λf s1 q=>?_);cases f with
 |next=>
  obtain⟨gO,H',I',q⟩:=q;exact h2 pins s1 gO H' D I' q
 |ret v=>exact q
 |brk=>exact q
 |cont=>exact q
theorem au(h1:PS X st t):GB X [st] t:=by
 intro pins s σ H D I h;refine wpAny_execs_cons (eO (h1 pins s σ H D I h) λf s1 q=>?_);cases f with
 |next=>exact Fd q
 |ret v=>exact q
 |brk=>exact q
 |cont=>exact q
theorem Inv.quiet{pins:List (Addr×Obj)}{σ:St}{H:Hp}{s:Shared}(I:Inv X pins σ H s):interactive X.env=false:=by simp[interactive,I.ok.kind]
def R9(te:TE):TS:=λD σ H=>te σ H λ_ H1=>D.nx σ H1
theorem fR(he:PE X e te)(hs:swapsWith e none pos.line X.env=pure false:=by rfl):PS X (.Expr e pos) (R9 te):=by
 intro pins s σ H D I h;exact wpAny_Expr_any (eO (he pins s σ H _ I h) λv s1⟨x,H1,I1,r1,q1⟩=>⟨σ,H1,I1,q1⟩) I.quiet hs
def R1(te:TE):TS:=λD σ H=>te σ H D.rt
theorem aH(he:PE X e te):PS X (.Return (some e) pos) (R1 te):=by
 intro pins s σ H D I h;exact wpAny_Return_some (eO (he pins s σ H _ I h) λv s1⟨x,H1,I1,r1,q1⟩=>⟨x,σ,H1,I1,r1,q1⟩)
def R8(c:TT)(t u:TS):TS:=λD σ H=>c σ H λb H1=>if b=true then t D σ H1 else u D σ H1
theorem bt{c:Expr}{a b:List Stmt}{tc:TT}(hc:PT X c tc)(ha:GB X a t)(hb:GB X b u):PS X (.If c a b pos) (R8 tc t u):=by
 intro pins s σ H D I h;refine wpAny_If (eO (hc pins s σ H _ I h) λd s1⟨H1,I1,q1⟩=>?_);cases d with
 |true=>exact ha pins s1 σ H1 D I1 q1
 |false=>exact hb pins s1 σ H1 D I1 q1
end
abbrev TG:=V->St->Hp->(St->Hp->Prop)->Prop
abbrev O0:=List V->St->Hp->(St->Hp->Prop)->Prop
def PG(X:Cx)(target:Expr)(t:TG):Prop:=
 ∀(pins:List (Addr×Obj))(s:Shared)(σ:St)(H:Hp)(v:V)(u:Value)(Q:St->Hp->Prop),Inv X pins σ H s->RelV v u->t v σ H Q->
  wpAny (model X.prog X.w) X.A (assign target X.env u) (λ_ s'=>∃gO H',Inv X pins gO H' s'/\Q gO H') X.xe s
def Ub(X:Cx)(ts:List Expr)(t:O0):Prop:=
 ∀(pins:List (Addr×Obj))(s:Shared)(σ:St)(H:Hp)(vs:List V)(us:List Value)(Q:St->Hp->Prop),Inv X pins σ H s->Vals vs us->t vs σ H Q->
  wpAny (model X.prog X.w) X.A (assignInOrder ((assignEach ts X.env).map (·.2)) us) (λ_ s'=>∃gO H',Inv X pins gO H' s'/\Q gO H') X.xe s
abbrev U3:=V->V->Hp->VK->Prop
def XI(X:Cx)(op:Operator)(t:U3):Prop:=
 ∀(pins:List (Addr×Obj))(s:Shared)(σ:St)(H:Hp)(x y:V)(v u:Value)(Q:VK),Inv X pins σ H s->RelV x v->RelV y u->t x y H Q->
  wpAny (model X.prog X.w) X.A (inplaceOp op v u) (EP X pins σ Q) X.xe s
section
variable{X:Cx}{pos:Pos}
def m5(i:Nat):TG:=λv σ H Q=>Q (σ.set i (some v)) H
theorem Ng{i:Nat}{x:Str}(hN:X.N.Nodup)(hi:X.N[i]?=some x)(hx:Loc X.env.scope x)(hf:X.fn x=true\/X.env.scope.names.lookup x=some .local:=by first|exact .inl rfl|exact .inr rfl|assumption):PG X (.Name x pos) (m5 i):=by
 intro pins s σ H v u Q I r h;exact wpAny_assign_Name (xW I hN hi hx r (λs' I'=>⟨_,H,I',h⟩) hf)
def W7:O0:=λvs σ H Q=>vs=[]/\Q σ H
def TN(t:TG)(u:O0):O0:=λvs σ H Q=>∃v r,vs=v::r/\t v σ H λgO H'=>u r gO H' Q
theorem BQ:Ub X [] W7:=by
 intro pins s σ H vs us Q I r h;obtain⟨e,h⟩:=h;subst e;cases r;exact assignInOrder_nil ⟨σ,H,I,h⟩
theorem mT{e:Expr}{es:List Expr}{t:TG}{u:O0}(h1:PG X e t)(h2:Ub X es u)
  (hs:(assignEach (e::es) X.env).map (·.2)=assign e X.env::(assignEach es X.env).map (·.2):=by rfl):Ub X (e::es) (TN t u):=by
 intro pins s σ H vs us Q I r h;obtain⟨v,vr,e1,h⟩:=h;subst e1;cases r with
 |cons r rr=>
  rw[hs];refine assignInOrder_cons (eO (h1 pins s σ H _ _ _ I r h) λ_ s1⟨Rv,H1,I1,q1⟩=>?_);exact h2 pins s1 Rv H1 _ _ Q I1 rr q1
def TM(K:c9)(n:Nat)(t:O0):TG:=λv σ H Q=>∃a xs,v=.ref a/\c8 K H a xs/\xs.length=n/\t xs σ H Q
theorem Km{es:List Expr}{k:Nat}{t:O0}{n:Nat}(hc:X.calm=true)(h:Ub X es t)
  (hn:(assignEach es X.env).length=n:=by rfl) (Em:(assignEach es X.env).findIdx? (·.1)=none:=by rfl):PG X (.Tuple es k pos) (TM X.K n t):=by
 intro pins s σ H v u Q I r hw;obtain⟨a,xs,e1,hq,hl,hw⟩:=hw;subst e1;cases r;obtain⟨bU,rv,ht,hz⟩:=I.tuple hq;refine assign_Tuple_tuple (I.ok.hd hc) ht (by simp[hn,<-hl,rv.length]) Em λh' hx=>?_
 have I1:Inv X pins σ H {s with heap:=h'}:=I.kept (t':=s.toks) λb o e=>hx b o (a0 (aM e)) e
 exact h pins _ σ H xs _ Q I1 (by simpa using rv) hw
def Pq(te:TE)(g:TG):TS:=λD σ H=>te σ H λx H1=>g x σ H1 D.nx
theorem PY{i:Nat}{x:Str}{e:Expr}{te:TE}{pos':Pos}(hN:X.N.Nodup)(hi:X.N[i]?=some x)(hx:Loc X.env.scope x)(he:PE X e te)(hs:swapsWith e (some (.Name x pos')) pos.line X.env=pure false:=by rfl)(hf:X.fn x=true\/X.env.scope.names.lookup x=some .local:=by first|exact .inl rfl|exact .inr rfl|assumption):
  PS X (.Assign [.Name x pos'] e pos) (Pq te (m5 i)):=by
 intro pins s σ H D I h;refine wpAny_Assign_Name (eO (he pins s σ H _ I h) λv s1⟨y,H1,I1,r1,q1⟩=>?_) hs;exact xW I1 hN hi hx r1 (λs2 I2=>⟨_,H1,I2,q1⟩) hf
def Vl(i:Nat)(te:TE)(ti:U3):TS:=λD σ H=>∃x,σ[i]?=some (some x)/\te σ H λy H1=>ti x y H1 λz H2=>D.nx (σ.set i (some z)) H2
theorem PZ{i:Nat}{x:Str}{e:Expr}{te:TE}{op:Operator}{ti:U3}{pos':Pos}(hN:X.N.Nodup)(hi:X.N[i]?=some x)(hx:Loc X.env.scope x)(he:PE X e te)(ho:XI X op ti)(hf:X.fn x=true\/X.env.scope.names.lookup x=some .local:=by first|exact .inl rfl|exact .inr rfl|assumption):
  PS X (.AugAssign (.Name x pos') op e pos) (Vl i te ti):=by
 intro pins s σ H D I h;obtain⟨v,e1,h⟩:=h;obtain⟨m,hn,hl⟩:=I.loc;have vis:Rm X.env.scope x:=by rcases hx with k|k;exact .inl k;exact .inr (.inl k)
 obtain⟨u,r,l⟩:=hl i x v hi e1 vis;refine wpAny_AugAssign_Name ?_;have go:wpAny (model X.prog X.w) X.A (eval e X.env) (λw kC=>wpAny (model X.prog X.w) X.A (inplaceOp op u w) (λr Dr=>wpAny (model X.prog X.w) X.A (storeName X.env x r) (λ_=>SP X pins D .next) X.xe Dr) X.xe kC) X.xe s:=by
  refine eO (he pins s σ H _ I h) λw s1⟨y,H1,I1,r1,q1⟩=>?_
  refine eO (ho pins s1 σ H1 v y u w _ I1 r r1 q1) λz s2⟨zv,H2,I2,r2,q2⟩=>?_
  exact xW I2 hN hi hx r2 (λs3 I3=>⟨_,H2,I3,q2⟩) hf
 rcases l with⟨hk,hm⟩|⟨hk,c,hc,Hi⟩
 ·exact wpAny_loadName_local I.ok.kind hk hn hm go
 ·rcases hk with hk|hk
  ·exact wpAny_loadName_cell I.ok.kind hk hc Hi go
  ·rcases hx with k|k
   ·have:X.env.scope.names.lookup x=some .free:=hk
    rw[k]at this;cases this
   ·have:X.env.scope.names.lookup x=some .free:=hk
    rw[k]at this;cases this
def XX(f:Int->Int->Int):U3:=λx y H Q=>∃i j,x=.int i/\y=.int j/\Q (.int (f i j)) H
theorem QF:XI X .Add (XX λi j=>i+j):=by
 intro pins s σ H x y v u Q I r1 r2 h;obtain⟨i,j,e1,e2,q⟩:=h;subst e1;subst e2;obtain⟨t,rfl⟩:=r1;obtain⟨t',rfl⟩:=r2;exact iadd_int ⟨.int _,H,I.tok _,⟨_,rfl⟩,q⟩
def Pf(c:TT)(tb:TS):TS:=λD σ H=>∃W:Nat->St->Hp->Prop,(∃m,W m σ H)/\∀m σ H,W m σ H->
 c σ H λb H1=>if b=true then∃N:St->Hp->Prop,(∀gO H',N gO H'->∃m',m'<m/\W m' gO H')/\tb {D with nx:=N,ct:=N,bk:=D.nx} σ H1 else D.nx σ H1
theorem ud{c:Expr}{body:List Stmt}{tc:TT}{tb:TS}(hp:PassesOwn (model X.prog X.w) X.A X.env X.xe)(hc:PT X c tc)(hb:GB X body tb):PS X (.While c body [] pos) (Pf tc tb):=by
 intro pins s σ H D I h;obtain⟨W,⟨m0,w0⟩,turn⟩:=h;refine wpAny_While (codeAny_whileLoop (λn s'=>∃gO H',Inv X pins gO H' s'/\W n gO H') ?_ m0 ⟨σ,H,I,w0⟩);rintro n s1 ⟨Rv,H1,I1,w1⟩;refine jW hp (eO (hc pins s1 Rv H1 _ I1 (turn n Rv H1 w1)) λb s2⟨H2,I2,q2⟩=>?_);cases b with
 |true=>
  obtain⟨N,hN,q2⟩:=q2;rw[az rfl];refine jW hp (eO (hb pins s2 Rv H2 _ I2 q2) λf s3 q3=>?_);cases f with
  |next=>
   obtain⟨JO,H3,I3,n3⟩:=q3;obtain⟨m',hm,w3⟩:=hN JO H3 n3;exact⟨m',hm,JO,H3,I3,w3⟩
  |cont=>
   obtain⟨JO,H3,I3,n3⟩:=q3;obtain⟨m',hm,w3⟩:=hN JO H3 n3;exact⟨m',hm,JO,H3,I3,w3⟩
  |brk=>exact q3
  |ret v=>exact q3
 |false=>
  rw[aw aK];exact Fd ⟨Rv,H2,I2,q2⟩
end
structure It where
 go:Nat->Hp->Prop
 Fm:Nat->Hp->V->Hp->Prop
 stop:Nat->Hp->Prop
def xh(X:Cx)(pins:List (Addr×Obj))(H:Hp)(b:Addr):Prop:=
 H b=none/\b≠X.env.locals/\b∉X.fs/\(b∈X.ex\/X.AZ.heap.objs.size<=b)/\(∀x c,X.env.cells.lookup x=some c->c≠b)/\∀p∈X.pn++pins,p.1≠b
theorem Inv.Gi{X:Cx}{pins:List (Addr×Obj)}{σ:St}{H H':Hp}{s:Shared}{b:Addr}(I:Inv X pins σ H s)(hb:s.heap.objs.size<=b)(hn:H' b=none):xh X pins H' b:=by
 refine⟨hn,gx (bA I.lt hb),I.VD hb,.inr (bf I.sz hb),λx c e z=>?_,λp hp z=>?_⟩
 ·obtain⟨v,q⟩:=I.cell x c e
  exact absurd (bA q.lt (by rw[z];exact hb)) (dJ _)
 ·exact absurd (bA (aM (I.pin p hp).1) (by rw[z];exact hb)) (dJ _)
structure Turn(P:Program)(w:World)(K:c9)(tg:Expr)(J:It)(fp:List Addr)(it:Addr)(tn:Nat->Heap->Prop):Prop where
 mem:it∈fp
 obj:∀i h,tn i h->∀b∈fp,∃o,h.get? b=some o/\∀v,o.data≠ .cell v
 keep:∀i h h',tn i h->(∀b∈fp,∀o,h.get? b=some o->h'.get? b=some o)->tn i h'
 item:∀(X:Cx),X.prog=P->X.w=w->X.K=K->X.calm=true->∀(i:Nat)(pins:List (Addr×Obj))(s:Shared)(σ:St)(H:Hp)(E:fw),Inv X pins σ H s->(∀b∈fp,xh X pins H b)->tn i s.heap->J.go i H->
  wpAny (model P w) X.A (pyNext (.ref it)) (λr s1=>∃u,r=some u/\
   wpAny (model P w) X.A (letOwnedTupleGo tg (.ref it) u) (λ_ s2=>∃x H',Inv X pins σ H' s2/\RelV x u/\J.Fm i H x H'/\tn (i+1) s2.heap/\∀b∈fp,H' b=none) E s1) E s
 done:∀(X:Cx),X.prog=P->X.w=w->X.K=K->X.calm=true->∀(i:Nat)(pins:List (Addr×Obj))(s:Shared)(σ:St)(H:Hp)(E:fw),Inv X pins σ H s->(∀b∈fp,xh X pins H b)->tn i s.heap->J.stop i H->
  wpAny (model P w) X.A (pyNext (.ref it)) (λr s1=>r=none/\Inv X pins σ H s1) E s
 self:∀(A:Around)(i:Nat)(s:Shared)(Q:fw)(E:fw),tn i s.heap->Q (.ref it) s->wpAny (model P w) A (pyIter (.ref it)) Q E s
abbrev TI:=St->Hp->(It->Hp->Prop)->Prop
def U5(X:Cx)(pins:List (Addr×Obj))(σ:St)(tg:Expr)(R:It->Hp->Prop)(VX:Value)(s2:Shared):Prop:=
 ∃(it:Addr)(fp:List Addr)(tn:Nat->Heap->Prop)(J:It)(H':Hp),VX=.ref it/\Inv X pins σ H' s2/\Turn X.prog X.w X.K tg J fp it tn/\tn 0 s2.heap/\(∀b∈fp,xh X pins H' b)/\R J H'
def PI(X:Cx)(tg iter:Expr)(wi:TI):Prop:=
 ∀(pins:List (Addr×Obj))(s:Shared)(σ:St)(H:Hp)(R:It->Hp->Prop),Inv X pins σ H s->wi σ H R->
  wpAny (model X.prog X.w) X.A (eval iter X.env) (λv s1=>wpAny (model X.prog X.w) X.A (pyIter v) (U5 X pins σ tg R) X.xe s1) X.xe s
theorem Hj{M:Model}{A:Around}{E:fw}{s:Shared}{tg:Expr}{it:Addr}{u:Value}{o:Obj}{n:String}{vs:Array Value}{Q:Unit->Shared->Prop}(ho:s.heap.get? it=some o)(hc:o.cls=.type n)(hd:o.data=.fields vs)
  (hn: ["enumerate","zip","dict_itemiterator","dict_reverseitemiterator","odict_iterator","itertools.zip_longest","itertools.pairwise"].contains n=false) (hQ:Q () s):wpAny M A (letOwnedTupleGo tg (.ref it) u) Q E s:=by
 unfold letOwnedTupleGo;cases tg<;>first
  |exact aj hQ
  |(cases u<;>first
    |exact aj hQ
    |(refine aa (wpAny_load ho ?_)
      rw[hc,hd];show wpAny M A (if(["enumerate","zip","dict_itemiterator","dict_reverseitemiterator","odict_iterator","itertools.zip_longest","itertools.pairwise"].contains n&&vs[0]?==some (rawInt _))=true then _ else _) Q E s
      rw[aw (by intro h;rw[hn,d8]at h;cases h)];exact aj hQ))
def Ud(K:c9)(a:Addr):It:=
 ⟨λi H=>∃xs x,cG K H a xs/\xs[i]?=some x,λi H x H'=>H'=H/\∀xs,cG K H a xs->xs[i]?=some x,λi H=>∃xs,cG K H a xs/\xs.length<=i⟩
def RV(lo:Int)(n:Nat):It:=⟨λi _=>i<n,λi H x H'=>H'=H/\x=.int (lo+i),λi _=>n<=i⟩
theorem HJ{P:Program}{w:World}{K:c9}{tg:Expr}(a it:Addr):Turn P w K tg (Ud K a) [it] it (λi h=>h.IsListIter it a i) where
 mem:=by simp
 obj:=λi h st b hb=>by
  have e:b=it:=by simpa using hb
  subst e;obtain⟨o,e,c,d⟩:=st;exact⟨o,e,λv z=>by rw[d]at z;cases z⟩
 keep:=λi h h' st k=>st.at λo e=>k it (by simp) o e
 item:=by
  intro X hP hw hK hc i pins s σ H E I hf st hg;subst hP hw hK;obtain⟨xs,x,hq,hx⟩:=hg;obtain⟨bU,rv,p,hz⟩:=I.list hq;obtain⟨u,hu,ru⟩:=rv.get hx;obtain⟨f0,f1,f2,f3,f4,f5⟩:=hf it (by simp);refine wpAny_pyNext_list_item st p.isList (x:=u) (by simpa using hu) λh' tu sb=>?_
  have I1:Inv X pins σ H {s with heap:=h'}:=I.turned (t':=s.toks) (λb o hb e=>(sb.2 b hb).trans e) f0 f1 f3 f4 f5
  obtain⟨o,e,c,d⟩:=id tu;exact⟨u,rfl,Hj (s:={s with heap:=h'}) e c d (by decide) ⟨x,H,I1,ru,⟨rfl,λys hy=>by rw[I.pR hy hq];exact hx⟩,tu,λb hb=>(hf b hb).1⟩⟩
 done:=by
  intro X hP hw hK hc i pins s σ H E I hf st hg;subst hP hw hK;obtain⟨xs,hq,hx⟩:=hg;obtain⟨bU,rv,p,hz⟩:=I.list hq;obtain⟨f0,f1,f2,f3,f4,f5⟩:=hf it (by simp);have hl:=rv.length;exact wpAny_pyNext_list_end (I.ok.hd hc) st p.isList (by simp;omega) λh' eb=>⟨rfl,I.turned (t':=s.toks) (λb o hb e=>eb b o hb e) f0 f1 f3 f4 f5⟩
 self:=λ_ _ _ _ _ st h=>wpAny_pyIter_listiter st h
theorem Fs{P:Program}{w:World}{K:c9}{tg:Expr}(it:Addr)(lo:Int)(n:Nat):Turn P w K tg (RV lo n) [it] it (λi h=>IsRangeIter h it (lo+(i:Nat)*1) ((n:Int)-(i:Nat)) 1) where
 mem:=by simp
 obj:=λi h st b hb=>by
  have e:b=it:=by simpa using hb
  subst e;exact⟨_,st,λv z=>by
   have z':Data.fields _=Data.cell v:=z;cases z'⟩
 keep:=λi h h' st k=>k it (by simp) _ st
 item:=by
  intro X hP hw hK hc i pins s σ H E I hf st hg;subst hP hw hK;obtain⟨f0,f1,f2,f3,f4,f5⟩:=hf it (by simp);have W:=Walks.range (prog:=X.prog) (w:=X.w) (I.ok.hd hc) it lo 1 n;refine W.item i s _ _ hg st λv h' tk hv tu kk=>?_
  obtain⟨t,rfl⟩:=hv;have I1:Inv X pins σ H {s with heap:=h',toks:=tk}:=I.turned (λb o hb e=>kk b o (by simpa using hb) e) f0 f1 f3 f4 f5;refine⟨_,rfl,Hj (s:={s with heap:=h',toks:=tk}) (n:="range_iterator") tu rfl rfl (by decide) ⟨.int (lo+i),H,I1,⟨t,?_⟩,⟨rfl,rfl⟩,tu,λb hb=>(hf b hb).1⟩⟩
  rw[Int.mul_one]
 done:=by
  intro X hP hw hK hc i pins s σ H E I hf st hg;subst hP hw hK;obtain⟨f0,f1,f2,f3,f4,f5⟩:=hf it (by simp);exact wpAny_pyNext_range_end (I.ok.hd hc) st (by have:n<=i:=hg;omega) λh' eb=>⟨rfl,I.turned (t':=s.toks) (λb o hb e=>eb b o hb e) f0 f1 f3 f4 f5⟩
 self:=λ_ _ _ _ _ st h=>wpAny_pyIter_rangeiter st h
section
variable{X:Cx}{tg:Expr}
def S6(K:c9)(tl:TE):TI:=λσ H R=>tl σ H λx H1=>∃a,x=.ref a/\(∃xs,cG K H1 a xs)/\R (Ud K a) H1
theorem iq{l:Expr}{tl:TE}(hl:PE X l tl):PI X tg l (S6 X.K tl):=by
 intro pins s σ H R I h;refine eO (hl pins s σ H _ I h) λv s1⟨x,H1,I1,r1,q1⟩=>?_
 obtain⟨a,e,⟨xs,hq⟩,q⟩:=q1;subst e;cases r1;obtain⟨bU,rv,p,hz⟩:=I1.list hq;refine zQ p.isList ?_;refine⟨s1.heap.objs.size,[s1.heap.objs.size],_,_,H1,rfl,I1.kept (t':=s1.toks) λb o e=>ak _ e,HJ a _,⟨_,aO _ rfl,rfl,rfl⟩,λb hb=>?_,q⟩;have e:b=s1.heap.objs.size:=by simpa using hb
 subst e;exact I1.Gi (ay _) (I1.dy.fresh (ay _))
theorem Kh{pins:List (Addr×Obj)}{σ:St}{H:Hp}{s:Shared}{R:It->Hp->Prop}{E:fw}{lo hi:Int}{t u v:Tok}{tk:Nat}(I:Inv X pins σ H s)(h1: -(2^62)<=lo)(h2:lo<2^62)(h3: -(2^62)<=hi)(h4:hi<2^62)
  (q:R (RV lo (hi-lo).toNat) H):wpAny (model X.prog X.w) X.A (pyIter (.ref s.heap.objs.size)) (U5 X pins σ tg R) E {s with heap:=s.heap.push {cls:=.type "range",data:=.fields #[.int lo t,.int hi u,.int 1 v]},toks:=tk}:=by
 refine wpAny_pyIter_range (IsRange.new ..) (small_one h1 h2 h3 h4) ?_;have I1:Inv X pins σ H {s with heap:=s.heap.push {cls:=.type "range",data:=.fields #[.int lo t,.int hi u,.int 1 v]},toks:=tk}:=I.kept λb o e=>ak _ e
 refine⟨(s.heap.push {cls:=.type "range",data:=.fields #[.int lo t,.int hi u,.int 1 v]}).objs.size,[(s.heap.push {cls:=.type "range",data:=.fields #[.int lo t,.int hi u,.int 1 v]}).objs.size],_,_,H,rfl,
  I1.kept (t':=tk) λb o e=>ak _ e,Fs _ lo (hi-lo).toNat,?_,λb hb=>?_,q⟩
 ·have e1:lo+((0:Nat):Int)*1=lo:=by simp
  have e2:(((hi-lo).toNat:Nat):Int)-((0:Nat):Int)=Builtin.Range.rangeSize lo hi 1:=by rw[rangeSize_one];split<;>omega
  show IsRangeIter _ _ (lo+((0:Nat):Int)*1) ((((hi-lo).toNat:Nat):Int)-((0:Nat):Int)) 1
  rw[e1,e2];exact aO _ rfl
 ·have e:b=(s.heap.push {cls:=.type "range",data:=.fields #[.int lo t,.int hi u,.int 1 v]}).objs.size:=by simpa using hb
  subst e;exact I1.Gi (ay _) (I1.dy.fresh (ay _))
def S5(ta:TA):TI:=λσ H R=>ta σ H λvs H1=>∃i j:Int,vs=[.int i,.int j]/\(-(2^62)<=i/\i<2^62/\ -(2^62)<=j/\j<2^62)/\R (RV i (j-i).toNat) H1
theorem Il{a b:Expr}{ta:TA}{p pos:Pos}(hg:Gl X "range")(hm:X.mg "range"=none)(ha:PA X [a,b] ta)(hs:starEach [a,b] X.env=[(false,eval a X.env),(false,eval b X.env)]:=by rfl)(Te:starEach [b] X.env=[(false,eval b X.env)]:=by rfl):
  PI X tg (.Call (.Name "range" p) [a,b] [] pos) (S5 ta):=by
 intro pins s σ H R I h;refine Call_ (pT I hg hm boot_range (eN (eO (ha pos pins s σ H _ I h) λus s1⟨vs,H1,I1,r1,q1⟩=>?_) (by rw[hs,Te]) (by rw[Te];rfl)));obtain⟨i,j,e,⟨q1,q2,q3,q4⟩,q⟩:=q1;subst e;cases r1 with
 |cons r rr=>
  cases rr with
  |cons r' rr=>
   cases rr;obtain⟨t,rfl⟩:=r;obtain⟨t',rfl⟩:=r';exact call_range_2 (Kh I1 q1 q2 q3 q4 q)
def Vi(wi:TI)(g:TG)(tb:TS):TS:=λD σ H=>wi σ H λJ H1=>∃W:Nat->Nat->St->Hp->Prop,(∃m,W 0 m σ H1)/\∀i m σ H,W i m σ H->
 (J.stop i H/\D.nx σ H)\/(J.go i H/\∃N:St->Hp->Prop,(∀gO H',N gO H'->∃m',m'<m/\W (i+1) m' gO H')/\∀x H',J.Fm i H x H'->g x σ H' λmr H2=>tb {D with nx:=N,ct:=N,bk:=D.nx} mr H2)
def yp(fp:List Addr)(h:Heap):List (Addr×Obj):=fp.filterMap λb=>(h.get? b).map λo=>(b,o)
theorem sD{fp:List Addr}{h:Heap}{b:Addr}{o:Obj}(hb:b∈fp)(e:h.get? b=some o):(b,o)∈yp fp h:=lO.mpr ⟨b,hb,by rw[e];rfl⟩
theorem Ir{fp:List Addr}{h:Heap}{p:Addr×Obj}(hp:p∈yp fp h):p.1∈fp/\h.get? p.1=some p.2:=by
 obtain⟨b,hb,e⟩:=lO.mp hp;cases q:h.get? b with
 |none=>rw[q]at e;cases e
 |some o=>
  rw[q]at e;have e':(b,o)=p:=bw e;subst e';exact⟨hb,q⟩
theorem Inv.pinned{pins:List (Addr×Obj)}{σ:St}{H:Hp}{s:Shared}{fp:List Addr}(I:Inv X pins σ H s)(hf:∀b∈fp,xh X pins H b)(ho:∀b∈fp,∃o,s.heap.get? b=some o/\∀v,o.data≠ .cell v):Inv X (pins++yp fp s.heap) σ H s:=
 I.GY λp hp=>(br.mp hp).elim (λz=>I.pin p (cB _ z)) λz=>by
  obtain⟨hb,e⟩:=Ir z;obtain⟨f0,f1,f2,_⟩:=hf p.1 hb;obtain⟨o,e',d⟩:=ho p.1 hb;rw[e]at e';cases e';exact⟨e,f0,f1,f2,d⟩
theorem Inv.tG{pins pl:List (Addr×Obj)}{σ:St}{H:Hp}{s:Shared}(I:Inv X (pins++pl) σ H s):Inv X pins σ H s:=I.GY λp hp=>I.pin p (cB _ (cI _ hp))
theorem lG{iter:Expr}{body:List Stmt}{wi:TI}{g:TG}{tb:TS}{pos:Pos}(hp:PassesOwn (model X.prog X.w) X.A X.env X.xe)(hc:X.calm=true)(hi:PI X tg iter wi)(hg:PG X tg g)(hb:GB X body tb)
  (hs:∀x,foldedSetIterable iter X.env x=pure x:=by intro _;rfl):PS X (.For tg iter body [] pos) (Vi wi g tb):=by
 intro pins s σ H D I h;refine wpAny_For (eO (hi pins s σ H _ I h) λv s1 h1=>eO h1 λVX s2 h2=>?_) hs;obtain⟨it,fp,tn,J,H2,e,I2,T,Up,f2,W,⟨m0,w0⟩,turn⟩:=h2;subst e;have stat:∀{H':Hp},(∀b∈fp,H' b=none)->∀b∈fp,xh X pins H' b:=λhn b hb=>⟨hn b hb,(f2 b hb).2⟩
 refine codeAny_forLoop_any (λn s'=>∃i gO H',Inv X pins gO H' s'/\tn i s'.heap/\(∀b∈fp,H' b=none)/\W i n gO H') ?_ m0 ⟨0,σ,H2,I2,Up,λb hb=>(f2 b hb).1,w0⟩
 rintro n s3 ⟨i,JO,H3,I3,Uo,fr3,w3⟩;rcases turn i n JO H3 w3 with⟨stop,qn⟩|⟨go,N,hN,step⟩
 ·refine jW hp (eO (T.done X rfl rfl rfl hc i pins s3 JO H3 X.xe I3 (stat fr3) Uo stop) λr s4⟨hr,I4⟩=>?_)
  subst hr;exact Fd ⟨JO,H3,I4,qn⟩
 ·refine jW hp (eO (T.item X rfl rfl rfl hc i pins s3 JO H3 X.xe I3 (stat fr3) Uo go) λr s4⟨u,hr,h4⟩=>?_)
  subst hr;refine jW hp (eO h4 λ_ s5⟨x,H5,I5,r5,y5,Rx,fr5⟩=>?_);have I5':=I5.pinned (stat fr5) (T.obj _ _ Rx);refine jW hp (eO (hg _ s5 JO H5 x u _ I5' r5 (step x H5 y5)) λ_ s6⟨σ6,H6,I6,q6⟩=>?_);refine jW hp (eO (hb _ s6 σ6 H6 _ I6 q6) λf s7 q7=>?_);have again:∀{JN:St}{H7:Hp},Inv X (pins++yp fp s5.heap) JN H7 s7->N JN H7->∃m,m<n/\∃i gO H',Inv X pins gO H' s7/\tn i s7.heap/\(∀b∈fp,H' b=none)/\W i m gO H':=λ{JN H7}I7 n7=>by
   obtain⟨m',hm,w7⟩:=hN JN H7 n7;refine⟨m',hm,i+1,JN,H7,I7.tG,T.keep _ _ _ Rx λb hb o e=>(I7.pin (b,o) (cB _ (cB _ (sD hb e)))).1,λb hb=>?_,w7⟩
   obtain⟨o,e,d⟩:=T.obj _ _ Rx b hb;exact(I7.pin (b,o) (cB _ (cB _ (sD hb e)))).2.1
  cases f with
  |next=>obtain⟨JN,H7,I7,n7⟩:=q7;exact again I7 n7
  |cont=>obtain⟨JN,H7,I7,n7⟩:=q7;exact again I7 n7
  |brk=>obtain⟨JN,H7,I7,q7⟩:=q7;exact⟨JN,H7,I7.tG,q7⟩
  |ret v=>obtain⟨x7,JN,H7,I7,r7,q7⟩:=q7;exact⟨x7,JN,H7,I7.tG,r7,q7⟩
end
theorem I0{lo:Int}{n:Nat}{g:TG}{tb:TS}{D:Ends}{σ:St}{H:Hp}(Pv:Nat->St->Hp->Prop)(h0:Pv 0 σ H)
  (hs:∀i σ H,i<n->Pv i σ H->g (.int (lo+i)) σ H λmr H2=>tb {D with nx:=Pv (i+1),ct:=Pv (i+1),bk:=D.nx} mr H2)(hd:∀σ H,Pv n σ H->D.nx σ H):
  ∃W:Nat->Nat->St->Hp->Prop,(∃m,W 0 m σ H)/\∀i m σ H,W i m σ H->
   ((RV lo n).stop i H/\D.nx σ H)\/((RV lo n).go i H/\∃N:St->Hp->Prop,(∀gO H',N gO H'->∃m',m'<m/\W (i+1) m' gO H')/\∀x H',(RV lo n).Fm i H x H'->g x σ H' λmr H2=>tb {D with nx:=N,ct:=N,bk:=D.nx} mr H2):=by
 refine⟨λi m σ H=>m=n-i/\i<=n/\Pv i σ H,⟨n,by simp,bp _,h0⟩,?_⟩;rintro i m σ H ⟨rfl,hi,p⟩
 by_cases lT:i<n
 ·refine .inr ⟨lT,Pv (i+1),λgO H' p'=>⟨n-(i+1),by omega,rfl,lT,p'⟩,λx H' y=>?_⟩
  obtain⟨e,y⟩:=y;subst e y;exact hs i σ _ lT p
 ·have e:i=n:=by omega
  subst e;exact .inl ⟨ay _,hd σ H p⟩
abbrev R2:=V->V->Hp->VK->Prop
def oX(X:Cx)(f:Value->Value->Sem Value)(r:R2):Prop:=
 ∀(pins:List (Addr×Obj))(s:Shared)(σ:St)(H:Hp)(x y:V)(v u:Value)(Q:VK),Inv X pins σ H s->RelV x v->RelV y u->r x y H Q->
  wpAny (model X.prog X.w) X.A (f v u) (EP X pins σ Q) X.xe s
def jC(X:Cx)(f:Value)(r:List V->Hp->VK->Prop):Prop:=
 ∀(pins:List (Addr×Obj))(s:Shared)(σ:St)(H:Hp)(xs:List V)(us:List Value)(Q:VK),Inv X pins σ H s->Vals xs us->r xs H Q->
  wpAny (model X.prog X.w) X.A (call f us) (EP X pins σ Q) X.xe s
def Uj(r:R2)(ta tb:TE):TE:=λσ H Q=>ta σ H λx H1=>tb σ H1 λy H2=>r x y H2 Q
def rI(C:Int->Int->Prop)(g:Int->Int->V):R2:=λx y H Q=>∃i j,x=.int i/\y=.int j/\C i j/\Q (g i j) H
def Ou(g:Int->Int->V):R2:=λx y H Q=>∃i j,x=.int i/\y=.int j/\Q (g i j) H
section
variable{X:Cx}{a b c:Expr}{ta tb tc:TE}{pos:Pos}
theorem Rf(ha:PE X a ta)(hb:PE X b tb){pins:List (Addr×Obj)}{s:Shared}{σ:St}{H:Hp}{R:V->V->Hp->Prop}(I:Inv X pins σ H s)
  (h:ta σ H λx H1=>tb σ H1 λy H2=>R x y H2){Q:fw}{f:Value->Value->Sem Value}
  (hf:∀v u s2 x y H2,Inv X pins σ H2 s2->RelV x v->RelV y u->R x y H2->wpAny (model X.prog X.w) X.A (f v u) Q X.xe s2):
  wpAny (model X.prog X.w) X.A (eval a X.env) (λv cY=>wpAny (model X.prog X.w) X.A (eval b X.env) (λu kC=>wpAny (model X.prog X.w) X.A (f v u) Q X.xe kC) X.xe cY) X.xe s:=by
 refine eO (ha pins s σ H _ I h) λv s1⟨x,H1,I1,r1,q1⟩=>?_
 refine eO (hb pins s1 σ H1 _ I1 q1) λu s2⟨y,H2,I2,r2,q2⟩=>?_
 exact hf v u s2 x y H2 I2 r1 r2 q2
theorem dr{op:Operator}{r:R2}(ho:oX X (binaryOp op) r)(ha:PE X a ta)(hb:PE X b tb):PE X (.BinOp a op b pos) (Uj r ta tb):=by
 intro pins s σ H Q I h;exact wpAny_BinOp (Rf ha hb I h λv u s2 x y H2 I2 rx ry q=>ho pins s2 σ H2 x y v u Q I2 rx ry q)
theorem Ut{f:Value->Value->Sem Value}{C:Int->Int->Prop}{g:Int->Int->Int}
  (rule:∀(i j:Int)(t u:Tok)(s:Shared)(Q:fw)(E:fw),C i j->Q (.int (g i j) s.toks) {s with toks:=s.toks+1}->wpAny (model X.prog X.w) X.A (f (.int i t) (.int j u)) Q E s):
  oX X f (rI C λi j=>.int (g i j)):=by
 intro pins s σ H x y v u Q I rx ry h;obtain⟨i,j,rfl,rfl,hc,q⟩:=h;obtain⟨t,rfl⟩:=rx;obtain⟨t',rfl⟩:=ry;exact rule i j t t' s _ _ hc ⟨.int (g i j),H,I.tok _,⟨_,rfl⟩,q⟩
theorem SI{f:Value->Value->Sem Value}{g:Int->Int->Int}
  (rule:∀(i j:Int)(t u:Tok)(s:Shared)(Q:fw)(E:fw),Q (.int (g i j) s.toks) {s with toks:=s.toks+1}->wpAny (model X.prog X.w) X.A (f (.int i t) (.int j u)) Q E s):
  oX X f (Ou λi j=>.int (g i j)):=by
 intro pins s σ H x y v u Q I rx ry h;obtain⟨i,j,rfl,rfl,q⟩:=h;obtain⟨t,rfl⟩:=rx;obtain⟨t',rfl⟩:=ry;exact rule i j t t' s _ _ ⟨.int (g i j),H,I.tok _,⟨_,rfl⟩,q⟩
theorem Nn{f:Value->Value->Sem Value}{g:Int->Int->Bool}
  (rule:∀(i j:Int)(t u:Tok)(s:Shared)(Q:fw)(E:fw),Q (.bool (g i j)) s->wpAny (model X.prog X.w) X.A (f (.int i t) (.int j u)) Q E s):
  oX X f (Ou λi j=>.bl (g i j)):=by
 intro pins s σ H x y v u Q I rx ry h;obtain⟨i,j,rfl,rfl,q⟩:=h;obtain⟨t,rfl⟩:=rx;obtain⟨t',rfl⟩:=ry;exact rule i j t t' s _ _ ⟨.bl (g i j),H,I,rfl,q⟩
def Xy(i j:Int):Prop:=0<j/\j<1073741824
def Xx(i j:Int):Prop:=0<=j/\j<=1000000/\i.natAbs<2^64
def Ru(i j:Int):Prop:=(-(2^64)<i/\i<2^64)\/(-(2^64)<j/\j<2^64)
theorem Ru.ok{i j:Int}(h:Ru i j):IntMulOk i j:=by
 rcases h with⟨h1,h2⟩|⟨h1,h2⟩
 ·exact .of_left (intBits_le_64 h1 h2)
 ·exact .of_right (intBits_le_64 h1 h2)
theorem jr:oX X (binaryOp .Add) (Ou λi j=>.int (i+j)):=SI λ_ _ _ _ _ _ _ q=>add_int q
theorem FR:oX X (binaryOp .Sub) (Ou λi j=>.int (i-j)):=SI λ_ _ _ _ _ _ _ q=>sub_int q
theorem Qc:oX X (binaryOp .Mult) (rI Ru λi j=>.int (i*j)):=Ut λ_ _ _ _ _ _ _ hc q=>mul_int q hc.ok
theorem Ca:oX X (binaryOp .FloorDiv) (rI Xy λi j=>.int (i/j)):=Ut λi j _ _ _ _ _ hc q=>by
 have h1:(0:Int)<j:=hc.1;have h2:j<1073741824:=hc.2;exact floordiv_int (by omega) (by rw[Int.fdiv_eq_ediv_of_nonneg i (by omega)];exact q) (.inl (PyProof.noPylong_small (by omega)))
theorem vh:oX X (binaryOp .Mod) (rI (λ_ j=>0<j) λi j=>.int (i%j)):=Ut λi j _ _ _ _ _ hc q=>by
 have h1:(0:Int)<j:=hc;exact mod_int' (by omega) (by rw[Int.fmod_eq_emod_of_nonneg i (by omega)];exact q)
theorem KC:oX X (binaryOp .LShift) (rI Xx λi j=>.int (i*2^j.toNat)):=Ut λ_ _ _ _ _ _ _ hc q=>lshift_int_small hc.1 hc.2.1 hc.2.2 q
end
def Sr:V->V->Bool
 | .fL,.fL=>true| .fL,.int _=>true| .int _,.fL=>true| .fL,.bl _=>true| .bl _,.fL=>true| .fL,.str _=>true| .str _,.fL=>true
 | .int _,.int _=>true| .bl _,.bl _=>true| .str _,.str _=>true| .EO _,.EO _=>true
 | .int _,.str _=>true| .str _,.int _=>true| .bl _,.str _=>true| .str _,.bl _=>true
 |_,_=>false
def XU:R2:=λx y H Q=>Sr x y=true/\Q (.bl (decide (x=y))) H
def XS:R2:=λx y H Q=>Sr x y=true/\Q (.bl (!decide (x=y))) H
theorem Ht{i j:Int}:decide (V.int i=V.int j)=(i==j):=by
 rw[bz];simp
theorem LC{i j:Bool}:decide (V.bl i=V.bl j)=(i==j):=by
 rw[bz];simp
theorem Hs{i j:Str}:decide (V.str i=V.str j)=(i==j):=by
 rw[bz];simp
theorem Hu{i j:Array UInt8}:decide (V.EO i=V.EO j)=(i.toList==j.toList):=by
 rw[bz];cases i;cases j;simp
section
variable{X:Cx}{a b c:Expr}{ta tb tc:TE}{pos:Pos}
theorem dO{pins:List (Addr×Obj)}{σ:St}{H:Hp}{s:Shared}{Q:VK}{k k':Bool}(I:Inv X pins σ H s)(q:Q (.bl k) H)(e:k=k'):EP X pins σ Q (.bool k') s:=by
 subst e;exact⟨.bl k,H,I,rfl,q⟩
theorem eA:oX X (compareOp .Eq) XU:=by
 intro pins s σ H x y v u Q I rx ry h;obtain⟨hs,q⟩:=h;cases x with
 |fL=>
  cases rx;cases y with
  |fL=>cases ry;exact PySem.EqNone.eq_none_none (dO I q (by simp))
  |bl j=>cases ry;exact PySem.EqNone.eq_none_bool (dO I q (by simp))
  |int j=>obtain⟨t',rfl⟩:=ry;exact PySem.EqNone.eq_none_int (dO I q (by simp))
  |str j=>obtain⟨t',rfl⟩:=ry;exact PySem.EqNone.eq_none_str (dO I q (by simp))
  |_=>exact absurd (show false=true from hs) aK
 |bl i=>
  cases rx;cases y with
  |fL=>cases ry;exact PySem.EqNone.eq_bool_none (dO I q (by simp))
  |bl j=>cases ry;exact eq_bool (dO I q LC)
  |str j=>obtain⟨t',rfl⟩:=ry;exact PySem.EqMixed.eq_bool_str (dO I q (by simp))
  |_=>exact absurd (show false=true from hs) aK
 |int i=>
  obtain⟨t,rfl⟩:=rx;cases y with
  |fL=>cases ry;exact PySem.EqNone.eq_int_none (dO I q (by simp))
  |int j=>obtain⟨t',rfl⟩:=ry;exact eq_int (dO I q Ht)
  |str j=>obtain⟨t',rfl⟩:=ry;exact PySem.EqMixed.eq_int_str (dO I q (by simp))
  |_=>exact absurd (show false=true from hs) aK
 |str i=>
  obtain⟨t,rfl⟩:=rx;cases y with
  |fL=>cases ry;exact PySem.EqNone.eq_str_none (dO I q (by simp))
  |bl j=>cases ry;exact PySem.EqMixed.eq_str_bool (dO I q (by simp))
  |int j=>obtain⟨t',rfl⟩:=ry;exact PySem.EqMixed.eq_str_int (dO I q (by simp))
  |str j=>obtain⟨t',rfl⟩:=ry;exact eq_str (dO I q Hs)
  |_=>exact absurd (show false=true from hs) aK
 |EO i=>
  obtain⟨t,rfl⟩:=rx;cases y with
  |EO j=>obtain⟨t',rfl⟩:=ry;exact PySem.W.eq_bytes (dO I q Hu)
  |_=>exact absurd (show false=true from hs) aK
 |_=>cases y<;>exact absurd (show false=true from hs) aK
theorem DS:oX X (compareOp .NotEq) XS:=by
 intro pins s σ H x y v u Q I rx ry h;obtain⟨hs,q⟩:=h;cases x with
 |fL=>
  cases rx;cases y with
  |fL=>cases ry;exact PySem.EqNone.ne_none_none (dO I q (by simp))
  |bl j=>cases ry;exact PySem.EqNone.ne_none_bool (dO I q (by simp))
  |int j=>obtain⟨t',rfl⟩:=ry;exact PySem.EqNone.ne_none_int (dO I q (by simp))
  |str j=>obtain⟨t',rfl⟩:=ry;exact PySem.EqNone.ne_none_str (dO I q (by simp))
  |_=>exact absurd (show false=true from hs) aK
 |bl i=>
  cases rx;cases y with
  |fL=>cases ry;exact PySem.EqNone.ne_bool_none (dO I q (by simp))
  |bl j=>cases ry;exact ne_bool (dO I q (gW not LC))
  |str j=>obtain⟨t',rfl⟩:=ry;exact PySem.EqMixed.ne_bool_str (dO I q (by simp))
  |_=>exact absurd (show false=true from hs) aK
 |int i=>
  obtain⟨t,rfl⟩:=rx;cases y with
  |fL=>cases ry;exact PySem.EqNone.ne_int_none (dO I q (by simp))
  |int j=>obtain⟨t',rfl⟩:=ry;exact ne_int (dO I q (gW not Ht))
  |str j=>obtain⟨t',rfl⟩:=ry;exact PySem.EqMixed.ne_int_str (dO I q (by simp))
  |_=>exact absurd (show false=true from hs) aK
 |str i=>
  obtain⟨t,rfl⟩:=rx;cases y with
  |fL=>cases ry;exact PySem.EqNone.ne_str_none (dO I q (by simp))
  |bl j=>cases ry;exact PySem.EqMixed.ne_str_bool (dO I q (by simp))
  |int j=>obtain⟨t',rfl⟩:=ry;exact PySem.EqMixed.ne_str_int (dO I q (by simp))
  |str j=>obtain⟨t',rfl⟩:=ry;exact ne_str (dO I q (gW not Hs))
  |_=>exact absurd (show false=true from hs) aK
 |EO i=>
  obtain⟨t,rfl⟩:=rx;cases y with
  |EO j=>obtain⟨t',rfl⟩:=ry;exact PySem.W.ne_bytes (dO I q (gW not Hu))
  |_=>exact absurd (show false=true from hs) aK
 |_=>cases y<;>exact absurd (show false=true from hs) aK
theorem A3:oX X (compareOp .Lt) (Ou λi j=>.bl (decide (i<j))):=Nn λ_ _ _ _ _ _ _ q=>lt_int q
theorem hG:oX X (compareOp .LtE) (Ou λi j=>.bl (decide (i<=j))):=Nn λ_ _ _ _ _ _ _ q=>le_int q
theorem SH:oX X (compareOp .Gt) (Ou λi j=>.bl (decide (j<i))):=Nn λ_ _ _ _ _ _ _ q=>gt_int q
theorem DT:oX X (compareOp .GtE) (Ou λi j=>.bl (decide (j<=i))):=Nn λ_ _ _ _ _ _ _ q=>ge_int q
theorem bK(b:Expr){op:CmpOp}(h:op≠ .In:=by decide)(h2:op≠ .NotIn:=by decide):behindInMarks op b=false:=by
 have e1:(op==CmpOp.In)=false:=by cases op<;>first|rfl|exact absurd rfl h
 have e2:(op==CmpOp.NotIn)=false:=by cases op<;>first|rfl|exact absurd rfl h2
 cases b<;>simp[behindInMarks,e1,e2]
theorem gg{op:CmpOp}{r:R2}(ho:oX X (compareOp op) r)(ha:PE X a ta)(hb:PE X b tb)(hm:behindInMarks op b=false):PE X (.Compare a [op] [b] pos) (Uj r ta tb):=by
 intro pins s σ H Q I h;exact wpAny_Compare1 (Rf ha hb I h λv u s2 x y H2 I2 rx ry q=>ho pins s2 σ H2 x y v u Q I2 rx ry q) hm
def Od(t:TE):TT:=λσ H Q=>t σ H λx H'=>∃k,x=.bl k/\Q k H'
theorem bB{op:CmpOp}{r:R2}(ho:oX X (compareOp op) r)(ha:PE X a ta)(hb:PE X b tb)(hm:behindInMarks op b=false):PT X (.Compare a [op] [b] pos) (Od (Uj r ta tb)):=by
 intro pins s σ H Q I h;refine wpAny_isTrue_Compare1 (eO (ha pins s σ H _ I h) λv s1⟨x,H1,I1,r1,q1⟩=>eO (hb pins s1 σ H1 _ I1 q1) λu s2⟨y,H2,I2,r2,q2⟩=>
  eO (ho pins s2 σ H2 x y v u _ I2 r1 r2 q2) λc s3⟨z,H3,I3,r3,k,e,q3⟩=>?_) hm
 subst e;cases r3;exact dG ⟨H3,I3,q3⟩
def JY(r r':R2)(ta tb tc:TE):TE:=λσ H Q=>ta σ H λx H1=>tb σ H1 λy H2=>r x y H2 λz H3=>∃k,z=.bl k/\
 (if k=true then tc σ H3 λw' H4=>r' y w' H4 Q else Q (.bl false) H3)
theorem kd{op Qj:CmpOp}{r r':R2}(ho:oX X (compareOp op) r)(qM:oX X (compareOp Qj) r')(ha:PE X a ta)(hb:PE X b tb)(hc:PE X c tc)
  (hm:lastMarks [op,Qj] [b,c]=false:=by with_unfolding_all rfl):PE X (.Compare a [op,Qj] [b,c] pos) (JY r r' ta tb tc):=by
 intro pins s σ H Q I h;refine Compare_chain (eO (ha pins s σ H _ I h) λv s1⟨x,H1,I1,r1,q1⟩=>chain_link (eO (hb pins s1 σ H1 _ I1 q1) λu s2⟨y,H2,I2,r2,q2⟩=>
  eO (ho pins s2 σ H2 x y v u _ I2 r1 r2 q2) λd s3⟨z,H3,I3,r3,k,e,q3⟩=>?_)) hm
 subst e;cases r3;refine dG ?_;cases k with
 |false=>exact ite_ff ⟨.bl false,H3,I3,rfl,q3⟩
 |true=>exact ite_tt (chain_last (eO (hc pins s3 σ H3 _ I3 q3) λw' s4⟨z',H4,I4,r4,q4⟩=>qM pins s4 σ H4 y z' u w' Q I4 r2 r4 q4))
theorem uc{op Qj:CmpOp}{r r':R2}(ho:oX X (compareOp op) r)(qM:oX X (compareOp Qj) r')(ha:PE X a ta)(hb:PE X b tb)(hc:PE X c tc)
  (hm:lastMarks [op,Qj] [b,c]=false:=by with_unfolding_all rfl):PT X (.Compare a [op,Qj] [b,c] pos) (Od (JY r r' ta tb tc)):=by
 intro pins s σ H Q I h;refine isTrue_chain (eO (ha pins s σ H _ I h) λv s1⟨x,H1,I1,r1,q1⟩=>test_link (eO (hb pins s1 σ H1 _ I1 q1) λu s2⟨y,H2,I2,r2,q2⟩=>
  eO (ho pins s2 σ H2 x y v u _ I2 r1 r2 q2) λd s3⟨z,H3,I3,r3,k,e,q3⟩=>?_)) hm
 subst e;cases r3;refine dG ?_;cases k with
 |false=>
  obtain⟨k',e',q'⟩:=q3;cases e';exact ite_ff ⟨H3,I3,q'⟩
 |true=>
  refine ite_tt (test_last (eO (hc pins s3 σ H3 _ I3 q3) λw' s4⟨z',H4,I4,r4,q4⟩=>eO (qM pins s4 σ H4 y z' u w' _ I4 r2 r4 q4) λd' s5⟨z2,H5,I5,r5,k2,e2,q5⟩=>?_));subst e2;cases r5;exact dG ⟨H5,I5,q5⟩
theorem FZ:(sizeLine:Nat)<2^63:=by rw[bo];decide
theorem vals1{x:V}{us:List Value}(r:Vals [x] us):∃u,us=[u]/\RelV x u:=by
 cases r with
 |cons r1 r2=>cases r2;exact⟨_,rfl,r1⟩
theorem vals2{x y:V}{us:List Value}(r:Vals [x,y] us):∃u w',us=[u,w']/\RelV x u/\RelV y w':=by
 cases r with
 |cons r1 r2=>
  cases r2 with
  |cons r3 r4=>cases r4;exact⟨_,_,rfl,r1,r3⟩
theorem Jm(hc:X.calm=true):jC X (.builtin "min") (λxs H Q=>∃i j,xs=[.int i,.int j]/\Q (.int (if j<i then j else i)) H):=by
 intro pins s σ H xs us Q I r h;obtain⟨i,j,rfl,q⟩:=h;obtain⟨u,w',rfl,⟨t,rfl⟩,⟨t',rfl⟩⟩:=vals2 r;refine min_two_ints (I.ok.hd hc) λh' tk k=>⟨_,H,I.kept k,?_,q⟩
 by_cases hj:j<i
 ·rw[az hj,az hj];exact⟨_,rfl⟩
 ·rw[aw hj,aw hj];exact⟨_,rfl⟩
end
structure GD(h:Heap)(x dx C:Addr)(mA:jB):Prop where
 obj:h.get? x=some (PySem.W.instObj C dx)
 ns:h.Ns1 dx mA
 ne:dx≠x
theorem IC{h:Heap}{dx:Addr}{mA:jB}(n:h.Ns1 dx mA):∃od,h.get? dx=some od/\∀name,PySem.W.lookIn name od=some (mA name):=by
 obtain⟨o,es,ep,ho,hd,hk,_,hm⟩:=n;refine⟨o,ho,λname=>?_⟩;have e:=hm name;unfold nsFind findBy at e;rw[<-Array.find?_toList]at e;unfold PySem.W.lookIn;rw[hd];dsimp only;split
 ·rename_i y q
  rw[q]at e;exact gW some e
 ·rename_i q
  rw[q]at e;have a:es.toList.any (·.refKey)=false:=by
   rw[List.any_eq_false];intro y hy;obtain⟨z,t,WB⟩:=hk y (Array.mem_toList_iff.mp hy);simp[DictEntry.refKey,WB]
  have a':¬es.toList.any (·.refKey)=true:=by rw[a];exact aK
  rw[aw a'];exact gW some e
theorem GD.look{h:Heap}{x dx C:Addr}{mA:jB}(I:GD h x dx C mA):∃od,PySem.W.InstAt h x (PySem.W.instObj C dx) C (some od)/\∀name,PySem.W.lookIn name od=some (mA name):=
 let⟨od,ho,hl⟩:=IC I.ns
 ⟨od,⟨I.obj,rfl,rfl,ho⟩,hl⟩
section
variable{prog:Program}{w:World}{A:Around}{E:fw}{s:Shared}{K:c9}{x dx C f:Addr}{mA:jB}{name:Str}{v:Value}
theorem get_map{expr:Bool}{Q:fw}(X:K.In s.heap)(I:GD s.heap x dx C mA)(hg:PySem.W.plainGet K C name=true)(hh:PySem.W.hasDictIn K C=true)
  (ha:PySem.W.findIn K (.ref C) name=some none)(hv:mA name=some v)(QI:PySem.W.handedIn v=true)(h:Q v {s with toks:=s.toks+1}):
  wpAny (model prog w) A (getAttr (.ref x) name expr) Q E s:=by
 obtain⟨od,J,hl⟩:=I.look;exact PySem.W.get_value X J (E2 hg).1 (PySem.W.findObj_own hh ha rfl (by rw[hl,hv])) QI h
theorem Lp{pl:Sem Bool}{Q:Value×List Value->Shared->Prop}(X:K.In s.heap)(I:GD s.heap x dx C mA)(hg:PySem.W.plainGet K C name=true)
  (hf:PySem.W.findIn K (.ref C) name=some (some (.ref f)))(ht:PySem.W.isFn K (.ref f)=true)(hv:mA name=none)(h:Q (.ref f,[.ref x]) s):
  wpAny (model prog w) A (getMethod (.ref x) name pl) Q E s:=by
 obtain⟨od,J,hl⟩:=I.look;exact PySem.W.method_fn X J (E2 hg).1 (E2 hg).2 hf (fb.mp ht) (by show(PySem.W.lookIn name od).map (·.isSome)=some false;rw[hl,hv];rfl) h
theorem MV{ns:List Str}{Q:Unit->Shared->Prop}(X:K.In s.heap)(I:GD s.heap x dx C mA)
  (hs:PySem.W.findIn K (.ref C) "__setattr__"=some (some (.builtin "object.__setattr__")))(hp:PySem.W.plainOver K C=true)(ht:PySem.W.takerIn K C name=some none)(hh:PySem.W.hasDictIn K C=true)
  (hw:PySem.Within mA ns)(hsz:ns.length<=sizeLine)
  (h:∀h',GD h' x dx C (λy=>if y=name then some v else mA y)->Heap.SameBut dx s.heap h'->Q () {s with heap:=h',toks:=s.toks+2}):
  wpAny (model prog w) A (setAttr (.ref x) name v) Q E s:=by
 obtain⟨od,J,hl⟩:=I.look;refine PySem.W.set_plain X J hs (PySem.W.osa_open (s:={s with toks:=s.toks+1}) (r:=none) X J hp ht λb=>?_);obtain⟨cd,hc,Cz⟩:=PySem.W.any_some hh;have hx:s.heap.get? x=some ⟨.ref C,some dx,.plain,#[]⟩:=I.obj;refine aa (aj (aa (aa (wpAny_loadPart hx (aa (PySem.W.Looks.here (s:={s with toks:=s.toks+1}) (PySem.W.looks_clsIn X hc) ?_))))));rw[Cz];refine aj (a:=some dx) (aa (aj (aa ?_)));refine wpAny_nsSet1 (s:={s with toks:=s.toks+1}) I.ns λh' UG Te=>?_
 obtain⟨oD,esD,epD,hoD,hdD,hcD⟩:=UG.count (PySem.Within.cons name v hw);refine aa (wpAny_lookBehind hoD (by rw[hdD];exact pastItsLine_dict (bf hcD (by rw[aq];omega))) ?_);exact aj (h _ ⟨(Te.2 _ (fZ I.ne)).trans I.obj,UG,I.ne⟩ Te)
theorem KQ{R:Result->Shared->Prop}{vs:List Value}{kw:List (Str×Value)}(X:K.In s.heap)(hm:PySem.W.makesIn K C=true)
  (hi:PySem.W.findIn K (.ref C) "__init__"=some (some (.ref f)))(hf:PySem.W.typeIn K (.ref f)=some (.type "function"))
  (h:codeAny (model prog w) (A.under (.builtin "type.__call__" ⟨.ref C::vs,kw⟩)) (.call (.ref f) ⟨.ref (s.heap.objs.size+1)::vs,kw⟩) (PySem.W.InitBack (s.heap.objs.size+1) R)
   {s with heap:=(s.heap.push PySem.W.emptyDict).push (PySem.W.instObj C s.heap.objs.size)}):
  codeAny (model prog w) A (.call (.ref C) ⟨vs,kw⟩) R s:=by
 obtain⟨hh,g,d,t,os⟩:=s;exact PySem.W.make_core (PySem.W.makes_of X hm) (PySem.W.looks_findIn X hi) (λself=>PySem.W.bind_fn X self hf) (.inl rfl) h
end
def bZ(f:Str)(v:V):List (Str×V)->List (Str×V)
 | []=>[(f,v)]
 |(g,x)::r=>if g=f then(g,v)::r else(g,x)::bZ f v r
theorem wJ(f g:Str)(v:V):∀fs:List (Str×V),(bZ f v fs).lookup g=if g=f then some v else fs.lookup g
 | []=>by
  show List.lookup g [(f,v)]=_
  by_cases h:g=f
  ·have hb:(g==f)=true:=fb.mpr h
   simp only[List.lookup,hb,az h]
  ·have hb:(g==f)=false:=d4.mpr h
   simp only[List.lookup,hb,aw h]
 |(k,x)::r=>by
  have ih:=wJ f g v r;rw[show bZ f v ((k,x)::r)=(if k=f then(k,v)::r else(k,x)::bZ f v r)from rfl]
  by_cases hk:k=f
  ·rw[az hk]
   by_cases h:g=k
   ·have hb:(g==k)=true:=fb.mpr h
    simp only[List.lookup,hb,az (h.trans hk)]
   ·have hb:(g==k)=false:=d4.mpr h
    simp only[List.lookup,hb,aw (λe:g=f=>h (e.trans hk.symm))]
  ·rw[aw hk]
   by_cases h:g=k
   ·have hb:(g==k)=true:=fb.mpr h
    simp only[List.lookup,hb,aw (λe:g=f=>hk (h.symm.trans e))]
   ·have hb:(g==k)=false:=d4.mpr h
    simp only[List.lookup,hb];exact ih
theorem vz(f:Str)(v:V):∀fs:List (Str×V),f∈(bZ f v fs).map (·.1)/\∀g,g∈fs.map (·.1)->g∈(bZ f v fs).map (·.1)
 | []=>⟨by simp[bZ],λg h=>by simp at h⟩
 |(k,x)::r=>by
  obtain⟨i1,i2⟩:=vz f v r;rw[show bZ f v ((k,x)::r)=(if k=f then(k,v)::r else(k,x)::bZ f v r)from rfl]
  by_cases hk:k=f
  ·rw[az hk]
   subst hk;exact⟨by simp,λg h=>by simpa using h⟩
  ·rw[aw hk]
   refine⟨?_,λg h=>?_⟩
   ·rw[aT]
    exact ao _ i1
   ·rw[aT]at h⊢
    rcases aB.mp h with e|e
    ·exact aB.mpr (.inl e)
    ·exact ao _ (i2 g e)
theorem wK(f:Str)(v:V):∀fs:List (Str×V),(bZ f v fs).length<=fs.length+1
 | []=>by simp[bZ]
 |(k,x)::r=>by
  have ih:=wK f v r;rw[show bZ f v ((k,x)::r)=(if k=f then(k,v)::r else(k,x)::bZ f v r)from rfl]
  by_cases hk:k=f
  ·rw[az hk,aq,aq];omega
  ·rw[aw hk,aq,aq];omega
theorem oR.some_of{v:V}{o:Option Value}(r:oR (some v) o):∃u,o=some u/\RelV v u:=by
 cases o with
 |none=>exact(show False from r).elim
 |some u=>exact⟨u,rfl,r⟩
theorem oR.none_of{o:Option Value}(r:oR none o):o=none:=by
 cases o with
 |none=>rfl
 |some u=>exact(show False from r).elim
theorem IW{v:V}{u:Value}(r:RelV v u):PySem.W.handedIn u=true:=by
 cases v with
 |fL=>cases(show u=Value.none from r);rfl
 |bl b=>cases(show u=Value.bool b from r);rfl
 |int i=>obtain⟨t,e⟩:=(show∃t,u=Value.int i t from r);cases e;rfl
 |str x=>obtain⟨t,e⟩:=(show∃t,u=Value.str x t from r);cases e;rfl
 |EO b=>obtain⟨t,e⟩:=(show∃t,u=Value.bytes b t from r);cases e;rfl
 |TR b=>obtain⟨t,e⟩:=(show∃t,u=Value.float b t from r);cases e;rfl
 |ref a=>cases(show u=Value.ref a from r);rfl
 |ty n=>cases(show u=Value.type n from r);rfl
section
variable{P:Program}{w:World}{H H':Hp}{h h':Heap}{a C dx:Addr}{fs Lq:List (Str×V)}
theorem Cu(dy:qI P w H h)(e:H a=some (.ins C dx fs)):∃mA,GD h a dx C mA/\(∀f,oR (fs.lookup f) (mA f))/\PySem.Within mA (fs.map (·.1))/\fs.length<=1000/\H dx=some (.own a):=by
 obtain⟨d,z,ne,ob,mA,n,r,q⟩:=(show fz P w H h a (.ins C dx fs)from dy a _ e);exact⟨mA,⟨ob,n,ne⟩,r,q,z,d⟩
end
structure JL(K:c9)(C:Addr):Prop where
 pg:PySem.W.plainGet K C Str.empty=true
 hd:PySem.W.hasDictIn K C=true
 po:PySem.W.plainOver K C=true
 sa:PySem.W.findIn K (.ref C) "__setattr__"=some (some (.builtin "object.__setattr__"))
theorem JL.get{K:c9}{C:Addr}(c:JL K C)(f:Str):PySem.W.plainGet K C f=true:=c.pg
def d3(K:c9)(C:Addr)(f:Str):Prop:=PySem.W.findIn K (.ref C) f=some none
theorem d3.taker{K:c9}{C:Addr}{f:Str}(n:d3 K C f):PySem.W.takerIn K C f=some none:=by
 unfold PySem.W.takerIn;rw[show PySem.W.findIn K (.ref C) f=some none from n];rfl
structure Meth(K:c9)(C:Addr)(m:Str)(f:Addr):Prop where
 at_:PySem.W.findIn K (.ref C) m=some (some (.ref f))
 fn:PySem.W.isFn K (.ref f)=true
 kp:PySem.W.keepIn K (.ref f)=true
section
variable{X:Cx}{pins:List (Addr×Obj)}{σ:St}{H:Hp}{s:Shared}{a C dx:Addr}{fs:List (Str×V)}{f:Str}{v:V}{A:Around}{E:fw}
theorem Gh{b:Bool}{Q:fw}(I:Inv X pins σ H s)(e:H a=some (.ins C dx fs))(c:JL X.K C)(n:d3 X.K C f)(l:fs.lookup f=some v)
  (h:∀u s',Inv X pins σ H s'->RelV v u->Q u s'):wpAny (model X.prog X.w) A (getAttr (.ref a) f b) Q E s:=by
 obtain⟨mA,O,r,_,_,_⟩:=Cu I.dy e;obtain⟨u,hu,ru⟩:=oR.some_of (v:=v) (o:=mA f) (by rw[<-l];exact r f);exact get_map I.E6 O (c.get f) c.hd n hu (IW ru) (h u _ (I.tok _) ru)
theorem sI{m:Str}{g:Addr}{pl:Sem Bool}{Q:Value×List Value->Shared->Prop}(I:Inv X pins σ H s)(e:H a=some (.ins C dx fs))(c:JL X.K C)(k:Meth X.K C m g)(l:fs.lookup m=none)
  (h:Q (.ref g,[.ref a]) s):wpAny (model X.prog X.w) A (getMethod (.ref a) m pl) Q E s:=by
 obtain⟨mA,O,r,_,_,_⟩:=Cu I.dy e;have hn:mA m=none:=oR.none_of (by rw[<-l];exact r m);exact Lp I.E6 O (c.get m) k.at_ k.fn hn h
theorem FG{y:V}{u:Value}{Q:Unit->Shared->Prop}(I:Inv X pins σ H s)(e:H a=some (.ins C dx fs))(c:JL X.K C)(n:d3 X.K C f)(hl:fs.length<1000)(ry:RelV y u)
  (h:∀s',Inv X pins σ (upd H a (.ins C dx (bZ f y fs))) s'->Q () s'):wpAny (model X.prog X.w) A (setAttr (.ref a) f u) Q E s:=by
 obtain⟨mA,O,r,wi,_,ho⟩:=Cu I.dy e;have hz:(fs.map (·.1)).length<=sizeLine:=by rw[ab,bo];omega
 refine MV I.E6 O c.sa c.po n.taker c.hd wi hz λh' O' sb=>h _ ?_
 have hd:∃o,h'.get? dx=some o:=let⟨o,_,_,e',_⟩:=O'.ns;⟨o,e'⟩;refine I.write (x:=a) (e:=dx) (by rw[e];exact True.intro) (.inr ho) (λb q hb z=>(sb.2 b hb).trans z) hd ?_
 refine⟨by rw[aG O.ne];exact ho,?_,O.ne,O'.obj,_,O'.ns,λg=>?_,λg hg=>?_⟩
 ·have:=wK f y fs;omega
 ·show oR ((bZ f y fs).lookup g) (if g=f then some u else mA g)
  rw[wJ]
  by_cases q:g=f
  ·rw[az q,az q];exact ry
  ·rw[aw q,aw q];exact r g
 ·by_cases q:g=f
  ·rw[q];exact(vz f y fs).1
  ·refine(vz f y fs).2 g (wi g λz=>hg ?_)
   show(if g=f then some u else mA g)=none;rw[aw q];exact z
theorem Inv.made(I:Inv X pins σ H s):Inv X pins σ (upd (upd H s.heap.objs.size (.own (s.heap.objs.size+1))) (s.heap.objs.size+1) (.ins C s.heap.objs.size []))
  {s with heap:=(s.heap.push PySem.W.emptyDict).push (PySem.W.instObj C s.heap.objs.size)}:=by
 have e1:(s.heap.push PySem.W.emptyDict).get? s.heap.objs.size=some PySem.W.emptyDict:=aO s.heap rfl
 have e2:((s.heap.push PySem.W.emptyDict).push (PySem.W.instObj C s.heap.objs.size)).get? (s.heap.objs.size+1)=some (PySem.W.instObj C s.heap.objs.size):=by
  have:=aO (s.heap.push PySem.W.emptyDict) (o:=PySem.W.instObj C s.heap.objs.size) rfl
  rwa [bT]at this
 have e3:(s.heap.push PySem.W.emptyDict).Ns s.heap.objs.size (λ_=>none):=⟨PySem.W.emptyDict,#[],_,e1,rfl,(λe he=>absurd he (by simp)),λ_=>rfl⟩
 have I1:=I.laid (a:=s.heap.objs.size) (o:=.own (s.heap.objs.size+1)) (h':=s.heap.push PySem.W.emptyDict) (t':=s.toks) (λb u q=>ak _ q) (ay _) ⟨_,e1⟩;refine I1.laid (a:=s.heap.objs.size+1) (o:=.ins C s.heap.objs.size []) (t':=s.toks) (λb u q=>ak _ q) (qO (bT _ _)) ?_;have ne:s.heap.objs.size≠s.heap.objs.size+1:=a0 (iI _);refine⟨by rw[aG ne,ai],bp _,ne,e2,λ_=>none,(Heap.Ns1.of_empty e3).at λo q=>ak _ q,λ_=>True.intro,λy hy=>absurd rfl hy⟩
theorem N3{prog:Program}{w:World}{env:Env}{e:Expr}{f:Str}{pos:Pos}{s:Shared}{Q:fw}(hb:attributeBase e f env (eval e env)=eval e env)
  (h:wpAny (model prog w) A (eval e env) (λo cY=>wpAny (model prog w) A (getAttr o f true) Q E cY) E s):wpAny (model prog w) A (eval (.Attribute e f pos) env) Q E s:=
 Attribute_any_ h (by rw[arm_eval_Attribute,hb])
end
def Mz(K:c9)(ta:TE)(f:Str):TE:=λσ H Q=>ta σ H λx H1=>∃a C dx fs v,x=.ref a/\H1 a=some (.ins C dx fs)/\JL K C/\d3 K C f/\fs.lookup f=some v/\Q v H1
def Vn(K:c9)(ta tv:TE)(f:Str):TS:=λD σ H=>tv σ H λy H1=>ta σ H1 λx H2=>∃a C dx fs,x=.ref a/\H2 a=some (.ins C dx fs)/\JL K C/\d3 K C f/\fs.length<1000/\
 D.nx σ (upd H2 a (.ins C dx (bZ f y fs)))
section
variable{X:Cx}{o e value:Expr}{f:Str}{pos pos' uZ:Pos}{ta tv:TE}
theorem aF(he:PE X e ta)(hb:attributeBase e f X.env (eval e X.env)=eval e X.env):PE X (.Attribute e f pos) (Mz X.K ta f):=by
 intro pins s σ H Q I h;refine N3 hb (eO (he pins s σ H _ I h) λu s1⟨x,H1,I1,rx,a,C,dx,fs,v,ex,ea,c,n,l,q⟩=>?_);subst ex;obtain rfl:u=Value.ref a:=rx;exact Gh I1 ea c n l λu' s2 I2 ru=>⟨v,H1,I2,ru,q⟩
theorem eE(ha:PE X o ta)(hv:PE X value tv)(hs:swapsWith value (some (.Attribute o f pos')) pos.line X.env=pure false):PS X (.Assign [.Attribute o f pos'] value pos) (Vn X.K ta tv f):=by
 intro pins s σ H D I h;refine plainObj_wpAny_Assign_Attribute (eO (hv pins s σ H _ I h) λu s1⟨y,H1,I1,ry,q⟩=>eO (ha pins s1 σ H1 _ I1 q) λov s2⟨x,H2,I2,rx,a,C,dx,fs,ex,ea,c,n,l,q2⟩=>?_) hs;subst ex;obtain rfl:ov=Value.ref a:=rx;exact FG I2 ea c n l ry λs3 I3=>⟨σ,_,I3,q2⟩
theorem OD{pl:Sem Bool}{m:Str}{apos:Pos}{args:List Expr}{pins:List (Addr×Obj)}{s:Shared}{σ:St}{H:Hp}{Q:fw}{te:TE}(he:PE X e te)(I:Inv X pins σ H s)
  (h:te σ H λx H1=>∃a C dx fs g,x=.ref a/\H1 a=some (.ins C dx fs)/\JL X.K C/\Meth X.K C m g/\fs.lookup m=none/\
   ∀s1,Inv X pins σ H1 s1->wpAny (model X.prog X.w) X.A (callWith pos (.ref g) [.ref a] (backTo pos (starEach args X.env)) (backToKw pos (keywordEach [] X.env))) Q X.xe s1)
  (ht:eval (.Call (.Attribute e m apos) args [] pos) X.env=(do
   let ov <-eval e X.env
   standAt apos.atName
   let(f,first) <-holding [ov] (getMethod ov m pl)
   callWith pos f first (backTo pos (starEach args X.env)) (backToKw pos (keywordEach [] X.env)))):
  wpAny (model X.prog X.w) X.A (eval (.Call (.Attribute e m apos) args [] pos) X.env) Q X.xe s:=by
 refine AG (pl:=pl) (eO (he pins s σ H _ I h) λu s1⟨x,H1,I1,rx,a,C,dx,fs,g,ex,ea,c,k,l,q⟩=>?_) ht;subst ex;obtain rfl:u=Value.ref a:=rx;exact sI I1 ea c k l (q s1 I1)
end
structure gV(k:Nat)(A:Around):Prop where
 hd:A.handled=none
 dp:A.depth+3*k+5<recursionLimit
 un:A.units+16*k+200<cLine
theorem gV.mono{j k:Nat}{A:Around}(r:gV k A)(h:j<=k):gV j A:=⟨r.hd,by have:=r.dp;omega,by have:=r.un;omega⟩
theorem gV.deeper{k:Nat}{A:Around}(r:gV (k+1) A)(env:Env):gV k (A.deeper env):=
 ⟨r.hd,by have:=r.dp;show A.depth+1+3*k+5<_;omega,by have:=r.un;show A.units+3+16*k+200<_;omega⟩
theorem gV.in1{k:Nat}{A:Around}(r:gV (k+1) A):gV k A.in1:=
 ⟨r.hd,by have:=r.dp;show A.depth+3*k+5<_;omega,by have:=r.un;show A.units+1+16*k+200<_;omega⟩
theorem FY{A:Around}{C:Addr}{us:List Value}{kw:List (Str×Value)}:(A.under (.builtin "type.__call__" ⟨.ref C::us,kw⟩)).depth=A.depth+1:=by
 first|rfl|simp[Around.under,Code.weight,Code.isCreation,Code.isGuard,Code.isCaller,Code.frames,Code.isFrame,guardIds]
theorem FX{A:Around}{C:Addr}{us:List Value}{kw:List (Str×Value)}:(A.under (.builtin "type.__call__" ⟨.ref C::us,kw⟩)).units=A.units+1:=by
 first|rfl|simp[Around.under,Code.cUnits,Code.frames,Code.isFrame]
theorem gV.make{k:Nat}{A:Around}(r:gV (k+1) A)(C:Addr)(us:List Value)(kw:List (Str×Value)):gV k (A.under (.builtin "type.__call__" ⟨.ref C::us,kw⟩)):=
 ⟨r.hd,by have:=r.dp;rw[FY];omega,by have:=r.un;rw[FX];omega⟩
theorem gV.depth{k:Nat}{A:Around}(r:gV k A):A.depth<recursionLimit:=by have:=r.dp;omega
theorem gV.units{k:Nat}{A:Around}(r:gV k A):A.units+64<cLine:=by have:=r.un;omega
theorem gV.ji{k:Nat}{A:Around}(r:gV k A):A.units<cLine:=by have:=r.un;omega
def Mx:TA:=λ_ H Q=>Q [] H
def GN(ta:TE)(tr:TA):TA:=λσ H Q=>ta σ H λx H1=>tr σ H1 λxs H2=>Q (x::xs) H2
section
variable{X:Cx}{e:Expr}{es:List Expr}{te:TE}{t:TA}{pos:Pos}
theorem ah:PA X [] Mx:=λ_ _ _ _ H Q I h=>Calls.spliced_nil ⟨[],H,I,.nil,h⟩
theorem ag(ha:PE X e te)(hr:PA X es t)(hs:starEach (e::es) X.env=(false,eval e X.env)::starEach es X.env:=by rfl):PA X (e::es) (GN te t):=by
 intro pos pins s σ H Q I h;rw[hs];show wpAny _ _ (spliced ((false,eval e X.env)::backTo pos (starEach es X.env))) _ _ s;refine xp (eO (ha pins s σ H _ I h) λu s1⟨x,H1,I1,r1,q1⟩=>?_);exact eO (hr pos pins s1 σ H1 _ I1 q1) λus s2⟨xs,H2,I2,r2,q2⟩=>⟨x::xs,H2,I2,.cons r1 r2,q2⟩
def RY(t:TA):TE:=λσ H Q=>t σ H λxs H1=>xs.length<=sizeLine/\∀p,H1 p=none->Q (.ref p) (upd H1 p (.tup xs))
def Vg(t:TA):TE:=λσ H Q=>t σ H λxs H1=>xs.length<=sizeLine/\∀p,H1 p=none->Q (.ref p) (upd H1 p (.lst xs))
theorem nO{x1}(h:PA X es t):PE X (.Tuple es x1 pos) (RY t):=by
 intro pins s σ H Q I hq;refine wpAny_Tuple_spliced (eO (h pos pins s σ H _ I hq) λus s1⟨xs,H1,I1,r,z,q⟩=>⟨by rw[<-r.length];exact z,?_⟩);have hf:H1 s1.heap.objs.size=none:=I1.dy.fresh (ay _);refine⟨.ref s1.heap.objs.size,upd H1 s1.heap.objs.size (.tup xs),I1.laid (t':=s1.toks) (λb u e=>ak _ e) (ay _) ?_,rfl,q _ hf⟩;exact⟨z,us,r,⟨_,aO _ rfl,rfl,_,rfl⟩⟩
theorem a7(h:PA X es t):PE X (.List es pos) (Vg t):=by
 intro pins s σ H Q I hq;refine wpAny_List_spliced (eO (h pos pins s σ H _ I hq) λus s1⟨xs,H1,I1,r,z,q⟩=>⟨by rw[<-r.length];exact z,?_⟩);have hf:H1 s1.heap.objs.size=none:=I1.dy.fresh (ay _);refine⟨.ref s1.heap.objs.size,upd H1 s1.heap.objs.size (.lst xs),I1.laid (t':=s1.toks) (λb u e=>ak _ e) (ay _) ?_,rfl,q _ hf⟩;exact⟨z,us,0,r,aO _ rfl⟩
end
abbrev Sp:=List V->Hp->VK->XK->Prop
abbrev Mm:=List Env->Hp->Shared->XK->Value->Shared->Prop
structure zE(P:Program)(w:World)(K:c9)(mg:jB)(base:Heap)(A:Around)(outer:List Env)(s:Shared)(H:Hp):Prop where
 frames:A.frames=some outer
 mod:Mod K mg base
 bs:∀b o,base.get? b=some o->s.heap.get? b=some o/\H b=none
 LU:base.objs.size<=s.heap.objs.size
 vH:s.heap.FunFrames base outer
 OO:∀b∈Lr outer,H b=none
 dy:qI P w H s.heap
 bare:AllBare s.gens
def CE(outer:List Env)(P:Program)(w:World)(H:Hp)(s:Shared)(Q:VK)(u:Value)(s':Shared):Prop:=
 ∃v H',s'.os=s.os/\AllBare s'.gens/\Un (Lr outer) [] H H' s.heap s'.heap/\qI P w H' s'.heap/\RelV v u/\Q v H'
def CR(CX:Mm)(outer:List Env)(P:Program)(w:World)(H:Hp)(s:Shared)(Q:VK)(E:XK)(r:Result)(s':Shared):Prop:=
 match r with
 | .ok (.ret u)=>CE outer P w H s Q u s'
 | .ok _=>False
 | .error e=>CX outer H s E e s'
structure lN(P:Program)(w:World)(K:c9)(mg:jB)(base:Heap)(CX:Mm)(k:Nat)(f:Addr)(fd:FuncData)(ps:List Str)(sp:Sp):Prop where
 len:∀vs H Q E,sp vs H Q E->vs.length=ps.length
 run:∀(A:Around)(outer:List Env)(s:Shared)(H:Hp)(args:Args)(us:List Value)(vs:List V)(Q:VK)(E:XK),gV k A->zE P w K mg base A outer s H->BindsTo s fd args (ps.zip us)->Vals vs us->sp vs H Q E->
  codeAny (model P w) A (.call (.ref f) args) (CR CX outer P w H s Q E) s
theorem lN.mono{P:Program}{w:World}{K:c9}{mg:jB}{base:Heap}{CX:Mm}{j k:Nat}{f:Addr}{fd:FuncData}{ps:List Str}{sp:Sp}(F:lN P w K mg base CX j f fd ps sp)(h:j<=k):
  lN P w K mg base CX k f fd ps sp:=⟨F.len,λA outer s H args us vs Q E hr=>F.run A outer s H args us vs Q E (hr.mono h)⟩
theorem zE.make{P:Program}{w:World}{K:c9}{mg:jB}{base:Heap}{A:Around}{outer:List Env}{s:Shared}{H:Hp}(e:zE P w K mg base A outer s H)(C:Addr)(us:List Value)(kw:List (Str×Value)):
  zE P w K mg base (A.under (.builtin "type.__call__" ⟨.ref C::us,kw⟩)) outer s H:=⟨by first|exact e.frames|(simpa[Around.under,Code.envs,Code.isFrame,pushEnvs]using e.frames),e.mod,e.bs,e.LU,e.vH,e.OO,e.dy,e.bare⟩
theorem zE.in1{P:Program}{w:World}{K:c9}{mg:jB}{base:Heap}{A:Around}{outer:List Env}{s:Shared}{H:Hp}(e:zE P w K mg base A outer s H):
  zE P w K mg base A.in1 outer s H:=⟨e.frames,e.mod,e.bs,e.LU,e.vH,e.OO,e.dy,e.bare⟩
section
variable{X:Cx}{pins:List (Addr×Obj)}{σ:St}{H:Hp}{s s':Shared}
theorem Inv.Q4(I:Inv X pins σ H s):zE X.prog X.w X.K X.mg X.base X.A X.stack s H:=
 ⟨I.ok.frames,I.ok.mod,I.bs,bf I.ok.LU I.sz,I.stack,I.GQ,I.dy,I.bare⟩
theorem Inv.after{Q:VK}{u:Value}(I:Inv X pins σ H s)(h:CE X.stack X.prog X.w H s Q u s'):EP X pins σ Q u s':=by
 obtain⟨v,H',os,bare,un,dy,r,q⟩:=h;obtain⟨hh,g,d,t,P9⟩:=s';obtain rfl:P9=s.os:=os;exact⟨v,H',I.call (h':=hh) (g':=g) (d':=d) (t':=t) (ch:=[]) un dy bare (λb z=>absurd z (by simp)),r,q⟩
end
def Og(sp:Sp)(ze:List V)(E:XK)(t:TA):TE:=λσ H Q=>t σ H λvs H1=>sp (vs++ze) H1 Q E
def Oe(C:Addr)(m:Str)(sp:Sp)(ze:List V)(E:XK)(ta:TE)(t:TA):TE:=λσ H Q=>ta σ H λx H1=>∃a dx fs,x=.ref a/\H1 a=some (.ins C dx fs)/\fs.lookup m=none/\
 t σ H1 λvs H2=>sp (x::(vs++ze)) H2 Q E
def Of(C:Addr)(sp:Sp)(ze:List V)(E:XK)(t:TA):TE:=λσ H Q=>t σ H λvs H1=>∀x dx,H1 x=none->H1 dx=none->dx≠x->
 sp (.ref x::(vs++ze)) (upd (upd H1 dx (.own x)) x (.ins C dx [])) (λv H2=>v=.fL/\Q (.ref x) H2) E
def Binds(K:c9)(fd:FuncData)(ps:List Str)(ds:List Value):Prop:=
 ∀(s:Shared)(us:List Value),K.In s.heap->(us++ds).length=ps.length->BindsTo s fd ⟨us,[]⟩ (ps.zip (us++ds))
theorem Binds.all{K:c9}{fd:FuncData}{ps:List Str}(h:∀us:List Value,us.length=ps.length->bindArgs fd ⟨us,[]⟩=pure (ps.zip us)):Binds K fd ps []:=λs us _ hl=>by
 rw[fj]at hl⊢;exact .of_eq (h us hl)
def Passes(CX:Mm)(X:Cx)(E:XK):Prop:=∀(pins:List (Addr×Obj))(σ:St)(H:Hp)(s:Shared)(e:Value)(s':Shared),Inv X pins σ H s->CX X.stack H s E e s'->X.xe e s'
section
variable{X:Cx}{CX:Mm}{k:Nat}{f C:Addr}{fd:FuncData}{ps:List Str}{sp:Sp}{ze:List V}{ds:List Value}{E:XK}{x m:Str}{p pos apos:Pos}{e o:Expr}{es:List Expr}{ta:TE}{t:TA}
theorem FN{pins:List (Addr×Obj)}{σ:St}{H:Hp}{s:Shared}{Q:VK}{us:List Value}{vs:List V}(F:lN X.prog X.w X.K X.mg X.base CX k f fd ps sp)(hr:gV k X.A)(hb:Binds X.K fd ps ds)(hd:Vals ze ds)(hx:Passes CX X E)
  (I:Inv X pins σ H s)(r:Vals vs us)(h:sp (vs++ze) H Q E):wpAny (model X.prog X.w) X.A (call (.ref f) us) (EP X pins σ Q) X.xe s:=by
 have r2:Vals (vs++ze) (us++ds):=r.append hd;have hl:(us++ds).length=ps.length:=by rw[<-r2.length];exact F.len _ _ _ _ h
 refine wpAny_call (oS (F.run X.A X.stack s H ⟨us,[]⟩ (us++ds) (vs++ze) Q E hr I.Q4 (hb s us I.E6 hl) r2 h) λr s' hq=>?_);cases r with
 |error e=>exact hx pins σ H s e s' I hq
 |ok fl=>
  cases fl with
  |ret u=>exact I.after hq
  |next=>exact False.elim hq
  |brk=>exact False.elim hq
  |cont=>exact False.elim hq
theorem Nj(F:lN X.prog X.w X.K X.mg X.base CX k f fd ps sp)(hr:gV k X.A)(hg:Gl X x)(hm:X.mg x=some (.ref f))(hk:PySem.W.keepIn X.K (.ref f)=true)(hb:Binds X.K fd ps ds)(hd:Vals ze ds)(hx:Passes CX X E)
  (ha:PA X (e::es) t)(IT:(x==("__debug__":Str))=false:=by decide)(he:starEach (e::es) X.env=(false,eval e X.env)::starEach es X.env:=by rfl)(vC:(backTo pos (starEach es X.env)).any (·.1)=false:=by rfl):
  PE X (.Call (.Name x p) (e::es) [] pos) (Og sp ze E t):=by
 intro pins s σ H Q I h;refine jK (xF I hg hm ?_ IT);refine GG (h₀:=X.base) I.ok.mod.SV hk (eO (ha pos pins s σ H _ I h) λus s1⟨vs,H1,I1,r,q⟩=>⟨I1.E6,?_⟩) he vC;exact FN F hr hb hd hx I1 r q
theorem G1{pl:Sem Bool}(he:PE X o ta)(c:JL X.K C)(hm:Meth X.K C m f)(F:lN X.prog X.w X.K X.mg X.base CX k f fd ps sp)(hr:gV k X.A)(hb:Binds X.K fd ps ds)(hd:Vals ze ds)(hx:Passes CX X E)(ha:PA X (e::es) t)
  (Em:starEach (e::es) X.env=(false,eval e X.env)::starEach es X.env:=by rfl)(vC:(backTo pos (starEach es X.env)).any (·.1)=false:=by rfl)
  (ht:eval (.Call (.Attribute o m apos) (e::es) [] pos) X.env=(do
   let ov <-eval o X.env
   standAt apos.atName
   let(f,first) <-holding [ov] (getMethod ov m pl)
   callWith pos f first (backTo pos (starEach (e::es) X.env)) (backToKw pos (keywordEach [] X.env))):=by rfl):
  PE X (.Call (.Attribute o m apos) (e::es) [] pos) (Oe C m sp ze E ta t):=by
 intro pins s σ H Q I h;refine AG (pl:=pl) (eO (he pins s σ H _ I h) λu s1⟨x,H1,I1,rx,a,dx,fs,ex,ea,l,q⟩=>?_) ht;subst ex;obtain rfl:u=Value.ref a:=rx;refine sI I1 ea c hm l ?_;refine GG (first:=[.ref a]) (h₀:=X.base) I.ok.mod.SV hm.kp (eO (ha pos pins s1 σ H1 _ I1 q) λus s2⟨vs,H2,I2,r,q2⟩=>⟨I2.E6,?_⟩) Em vC;exact FN (us:=.ref a::us) (vs:=.ref a::vs) F hr hb hd hx I2 (.cons rfl r) q2
theorem DO{pl:Sem Bool}(he:PE X o ta)(c:JL X.K C)(hm:Meth X.K C m f)(F:lN X.prog X.w X.K X.mg X.base CX k f fd ps sp)(hr:gV k X.A)(hb:Binds X.K fd ps ds)(hd:Vals ze ds)(hx:Passes CX X E)
  (ht:eval (.Call (.Attribute o m apos) [] [] pos) X.env=(do
   let ov <-eval o X.env
   standAt apos.atName
   let(f,first) <-holding [ov] (getMethod ov m pl)
   callWith pos f first (backTo pos (starEach [] X.env)) (backToKw pos (keywordEach [] X.env))):=by rfl):
  PE X (.Call (.Attribute o m apos) [] [] pos) (Oe C m sp ze E ta Mx):=by
 intro pins s σ H Q I h;refine AG (pl:=pl) (eO (he pins s σ H _ I h) λu s1⟨x,H1,I1,rx,a,dx,fs,ex,ea,l,q⟩=>?_) ht;subst ex;obtain rfl:u=Value.ref a:=rx;refine sI I1 ea c hm l ?_;exact PySem.W.callWith_K0 (first:=[.ref a]) I1.E6 hm.kp (FN (us:=[.ref a]) (vs:=[.ref a]) F hr hb hd hx I1 (.cons rfl .nil) q)
structure Mk(K:c9)(C f:Addr):Prop where
 makes:PySem.W.makesIn K C=true
 init:PySem.W.findIn K (.ref C) "__init__"=some (some (.ref f))
 fn:PySem.W.isFn K (.ref f)=true
 kp:PySem.W.keepIn K (.ref C)=true
theorem DH{pins:List (Addr×Obj)}{σ:St}{H:Hp}{s:Shared}{Q:VK}{us:List Value}{vs:List V}(M:Mk X.K C f)(F:lN X.prog X.w X.K X.mg X.base CX k f fd ps sp)(hr:gV (k+1) X.A)(hb:Binds X.K fd ps ds)(hd:Vals ze ds)
  (hx:Passes CX X E)(I:Inv X pins σ H s)(r:Vals vs us)
  (h:∀x dx,H x=none->H dx=none->dx≠x->sp (.ref x::(vs++ze)) (upd (upd H dx (.own x)) x (.ins C dx [])) (λv H2=>v=.fL/\Q (.ref x) H2) E):
  wpAny (model X.prog X.w) X.A (call (.ref C) us) (EP X pins σ Q) X.xe s:=by
 have hq:=h (s.heap.objs.size+1) s.heap.objs.size (I.dy.fresh (lR _)) (I.dy.fresh (ay _)) (a0 (iI _));have I2:=Inv.made (C:=C) I;have r2:Vals (V.ref (s.heap.objs.size+1)::(vs++ze)) (Value.ref (s.heap.objs.size+1)::(us++ds)):=.cons rfl (r.append hd);have hl:(Value.ref (s.heap.objs.size+1)::us++ds).length=ps.length:=by
  have e:=r2.length;rw[F.len _ _ _ _ hq]at e;exact e.symm
 refine wpAny_call (KQ (f:=f) I.E6 M.makes M.init (fb.mp M.fn) (oS (F.run _ X.stack _ _ ⟨Value.ref (s.heap.objs.size+1)::us,[]⟩ (Value.ref (s.heap.objs.size+1)::(us++ds)) _ _ E (hr.make C us [])
  (I2.Q4.make C us []) (hb _ (Value.ref (s.heap.objs.size+1)::us) I2.E6 hl) r2 hq) λr s' De=>?_))
 cases r with
 |error e=>exact hx pins σ _ _ e s' I2 De
 |ok fl=>
  cases fl with
  |ret u=>
   obtain⟨v,H',I3,rv,ev,q3⟩:=I2.after De;subst ev;exact⟨rv,⟨V.ref (s.heap.objs.size+1),H',I3,rfl,q3⟩⟩
  |next=>exact False.elim De
  |brk=>exact False.elim De
  |cont=>exact False.elim De
theorem ue(M:Mk X.K C f)(F:lN X.prog X.w X.K X.mg X.base CX k f fd ps sp)(hr:gV (k+1) X.A)(hg:Gl X x)(hm:X.mg x=some (.ref C))(hb:Binds X.K fd ps ds)(hd:Vals ze ds)(hx:Passes CX X E)
  (ha:PA X (e::es) t)(IT:(x==("__debug__":Str))=false:=by decide)(he:starEach (e::es) X.env=(false,eval e X.env)::starEach es X.env:=by rfl)(vC:(backTo pos (starEach es X.env)).any (·.1)=false:=by rfl):
  PE X (.Call (.Name x p) (e::es) [] pos) (Of C sp ze E t):=by
 intro pins s σ H Q I h;refine jK (xF I hg hm ?_ IT);refine GG (h₀:=X.base) I.ok.mod.SV M.kp (eO (ha pos pins s σ H _ I h) λus s1⟨vs,H1,I1,r,q⟩=>⟨I1.E6,?_⟩) he vC;exact DH M F hr hb hd hx I1 r q
theorem Kq(M:Mk X.K C f)(F:lN X.prog X.w X.K X.mg X.base CX k f fd ps sp)(hr:gV (k+1) X.A)(hg:Gl X x)(hm:X.mg x=some (.ref C))(hb:Binds X.K fd ps ds)(hd:Vals ze ds)(hx:Passes CX X E)
  (IT:(x==("__debug__":Str))=false:=by decide):PE X (.Call (.Name x p) [] [] pos) (Of C sp ze E Mx):=by
 intro pins s σ H Q I h;refine jK (xF I hg hm ?_ IT);exact PySem.W.callWith_K0 I.E6 M.kp (DH (us:=[]) M F hr hb hd hx I .nil h)
end
structure a9(N P:List Str)(sc:Scope):Prop where
 kind:sc.kind=.function
 co:sc.isCoroutine=false
 gen:sc.isGenerator=false
 nd:N.Nodup
 pre:N.take P.length=P
 par:∀x∈P,sc.names.lookup x=some .local\/sc.names.lookup x=some .cell
 Qm:∀y∈sc.names,y.2≠ .free
theorem Bm{kindOf:Str->Option NameKind}{x:Str}:∀{binds:List (Str×Value)}{m:jB},(∀v,(x,v)∉binds)->bindL kindOf binds m x=m x
 | [],_,_=>rfl
 |(n,v)::r,m,h=>by
  unfold bindL;rw[Bm λw hw=>h w (ao _ hw)];split
  ·have:x≠n:=by rintro rfl;exact h v ax
   simp[this]
  ·rfl
theorem Bo{kindOf:Str->Option NameKind}{x:Str}:∀{binds:List (Str×Value)}{m:jB},(∀v,(x,v)∉binds)->bindC kindOf binds m x=m x
 | [],_,_=>rfl
 |(n,v)::r,m,h=>by
  unfold bindC;rw[Bo λw hw=>h w (ao _ hw)];split
  ·rfl
  ·have:x≠n:=by rintro rfl;exact h v ax
   simp[this]
theorem Bn{kindOf:Str->Option NameKind}{x:Str}{v:Value}:∀{P:List Str}{vs:List Value}{i:Nat}{m:jB},P.Nodup->P[i]?=some x->vs[i]?=some v->kindOf x=some .local->
  bindL kindOf (P.zip vs) m x=some v
 | [],_,_,_,_,h,_,_=>by simp at h
 |_::_,[],_,_,_,_,h,_=>by simp at h
 |p::P,w::vs,0,m,nd,h1,h2,hk=>by
  simp at h1 h2;subst h1;subst h2;show bindL kindOf ((p,w)::P.zip vs) m p=_;unfold bindL;rw[Bm λv hv=>(bY.mp nd).1 (zS hv).1,az hk]
  simp
 |p::P,w::vs,i+1,m,nd,h1,h2,hk=>by
  show bindL kindOf ((p,w)::P.zip vs) m x=_;unfold bindL;exact Bn (i:=i) (bY.mp nd).2 (by simpa using h1) (by simpa using h2) hk
theorem Bp{kindOf:Str->Option NameKind}{x:Str}{v:Value}:∀{P:List Str}{vs:List Value}{i:Nat}{m:jB},P.Nodup->P[i]?=some x->vs[i]?=some v->kindOf x≠some .local->
  bindC kindOf (P.zip vs) m x=some v
 | [],_,_,_,_,h,_,_=>by simp at h
 |_::_,[],_,_,_,_,h,_=>by simp at h
 |p::P,w::vs,0,m,nd,h1,h2,hk=>by
  simp at h1 h2;subst h1;subst h2;show bindC kindOf ((p,w)::P.zip vs) m p=_;unfold bindC;rw[Bo λv hv=>(bY.mp nd).1 (zS hv).1,aw hk]
  simp
 |p::P,w::vs,i+1,m,nd,h1,h2,hk=>by
  show bindC kindOf ((p,w)::P.zip vs) m x=_;unfold bindC;exact Bp (i:=i) (bY.mp nd).2 (by simpa using h1) (by simpa using h2) hk
def start(N:List Str)(vs:List V):St:=vs.map some++List.replicate (N.length-vs.length) none
def zh(CX:Mm)(P:Program)(w:World)(K:c9)(mg:jB)(base:Heap)(N:List Str)(qual:Str)(scope:Scope)(f:Addr)(cd:Value)(A:Around)(outer:List Env)(s:Shared)(H:Hp)(E:XK):Cx where
 prog:=P
 w:=w
 K:=K
 mg:=mg
 base:=base
 A:=A.deeper (envOfC qual scope s.heap.objs.size f cd)
 N:=N
 AZ:=s
 Rq:=H
 env:=envOfC qual scope s.heap.objs.size f cd
 outer:=outer
 stack:=envOfC qual scope s.heap.objs.size f cd::outer
 ex:=[]
 calm:=true
 fn:=λ_=>true
 pn:=[]
 xe:=λe s'=>wpAny (model P w) (A.deeper (envOfC qual scope s.heap.objs.size f cd)) (leaving (envOfC qual scope s.heap.objs.size f cd) e) (λ_ A0=>CX outer H s E e A0) (λe' A0=>CX outer H s E e' A0) s'
theorem EK{sc:Scope}{n:Nat}{x:Str}(h:sc.names.lookup x=some .cell):∃c,(cellsFrom n sc.names []).lookup x=some c:=by
 have q:=zH sc.names n [] (.inl h);exact Option.isSome_iff_exists.mp q
theorem Ba{CX:Mm}{P:Program}{w:World}{K:c9}{mg:jB}{base:Heap}{N ps:List Str}{qual:Str}{scope:Scope}{f:Addr}{cd:Value}{A:Around}{outer:List Env}{s s1:Shared}{H:Hp}{E:XK}{us:List Value}{vs:List V}
  (S:a9 N ps scope)(hd:A.handled=none)(e0:zE P w K mg base A outer s H)(hl:vs.length=ps.length)(r:Vals vs us)
  (x:InCallC s s.heap.objs.size (bindL (envOfC qual scope s.heap.objs.size f cd).kindOf (ps.zip us) λ_=>none) (cellsFrom (s.heap.objs.size+1) scope.names []) (bindC (envOfC qual scope s.heap.objs.size f cd).kindOf (ps.zip us) λ_=>none) s1):
  Inv (zh CX P w K mg base N qual scope f cd A outer s H E) [] (start N vs) H s1:=by
 have vC:ps.length<=N.length:=by have:=gW List.length S.pre;rw[bW]at this;omega
 obtain⟨h1,tk,rfl,hk⟩:=x.done;have RB:∀b:Addr,b∉(zh CX P w K mg base N qual scope f cd A outer s H E).ex:=λb z=>absurd (show b∈([]:List Addr)from z) (by simp)
 refine⟨⟨e0.mod,S.kind,rfl,rfl,ay _,λy z c h1 h2=>?_,λy hy=>?_,λy c _ h=>?_,λ_=>hd,Around.frames_deeper e0.frames,.inr ⟨rfl,rfl⟩,λb z=>absurd z (RB b),e0.bs,e0.LU,λb _ _=>RB b,λb z=>absurd z (RB b),e0.vH,e0.OO⟩,
  rfl,e0.bare,Un.kept hk,⟨_,x.toInCall.ns,λi y v h1 h2 h3=>?_⟩,λy c h=>⟨_,x.cell y c h⟩,e0.dy.fresh (ay _),λy c h=>?_,λp hp=>absurd (show p∈([]:List (Addr×Obj))from hp) (by simp),e0.dy.kept hk,?_⟩
 ·exact name_of_addr x.apart (cb h1) (cb h2)
 ·have hy:scope.names.lookup y=some .cell\/scope.names.lookup y=some .free:=hy
  rcases hy with hy|hy
  ·exact EK hy
  ·exact absurd rfl (S.Qm _ (cb hy))
 ·exact gZ (x.above y c (cb h))
 ·have hi:i<vs.length:=by
   unfold start at h2
   by_cases hi:i<vs.length
   ·exact hi
   ·rw[bD (by simpa using hi)]at h2
    rw[List.getElem?_replicate]at h2;split at h2<;>cases h2
  have ha:vs[i]?=some v:=by
   unfold start at h2;rw[bq (by simpa using hi),aW]at h2;cases e:vs[i]? with
   |none=>rw[e]at h2;cases h2
   |some a=>rw[e]at h2;cases h2;rfl
  obtain⟨u,hu,rv⟩:=r.get ha;have hp:ps[i]?=some y:=by
   rw[<-S.pre,List.getElem?_take_of_lt (by omega)];exact h1
  have C9:ps.Nodup:=by rw[<-S.pre];exact S.nd.sublist (List.take_sublist _ _)
  refine⟨u,rv,?_⟩;rcases S.par y (aY hp)with k|k
  ·exact .inl ⟨k,Bn C9 hp hu k⟩
  ·obtain⟨c,e⟩:=EK (n:=s.heap.objs.size+1) k
   refine .inr ⟨.inl k,c,e,?_⟩;have q:=x.cell y c e;rw[Bp C9 hp hu (by show scope.names.lookup y≠_;rw[k];decide)]at q;exact q
 ·exact e0.dy.fresh (gZ (x.above y c (cb h)))
 ·unfold start
  show _=N.length;rw[aA,ab,List.length_replicate];omega
theorem OP{CX:Mm}{P:Program}{w:World}{K:c9}{mg:jB}{base:Heap}{k:Nat}{f:Addr}{name qual:Str}{params:Arguments}{body:List Stmt}{scope:Scope}{dV kV doc pm mq ct oc:Value}{an od:Option Addr}
  {G3:Array (Option Value)}{N ps:List Str}{sp:Sp}(lk:K.lookup f=some ⟨oc,od,.func (PySem.W.fnOf name qual params body scope dV kV doc pm an mq ct),G3⟩)(Ga:PySem.W.codeIn K mq qual=true)(S:a9 N ps scope)
  (len:∀vs H Q E,sp vs H Q E->vs.length=ps.length)
  (p7:∀(A:Around)(outer:List Env)(s:Shared)(H:Hp)(vs:List V)(Q:VK)(E:XK),gV k (A.deeper (envOfC qual scope s.heap.objs.size f mq))->sp vs H Q E->
   ∃t,GB (zh CX P w K mg base N qual scope f mq A outer s H E) body t/\t {nx:=λ_ H'=>Q .fL H',rt:=Q} (start N vs) H):
  lN P w K mg base CX (k+1) f (PySem.W.fnOf name qual params body scope dV kV doc pm an mq ct) ps sp:=by
 refine⟨len,λA outer s H args us vs Q E hr e0 hb r OF=>?_⟩;have hl:=len _ _ _ _ OF;have KX:K.In s.heap:=e0.mod.SV.keeps λb o e=>(e0.bs b o e).1
 have lim:s.heap.NoLimit:=e0.mod.nolimit.keeps λb o e=>(e0.bs b o e).1
 have Lc:∀y∈ps.zip us,scope.names.lookup y.1=some .local\/(scope.names.lookup y.1=some .cell/\((cellsFrom (s.heap.objs.size+1) scope.names []).lookup y.1).isSome=true):=λ⟨n,v⟩hy=>by
  rcases S.par n (zS hy).1 with q|q
  ·exact .inl q
  ·exact .inr ⟨q,zH _ _ _ (.inl q)⟩
 refine codeAny_call_function hr.depth (KX _ _ lk) rfl S.co S.gen rfl (PySem.W.codeRec_of KX Ga) (hb _ _ _ _ ?_);refine wpAny_newFunctionEnv_cells S.kind Lc λenv he s1 x=>?_
 subst he;refine⟨lim.keeps x.toInCall.keep,codeAny_func ?_⟩;obtain⟨t,ht,hq⟩:=p7 A outer s H vs Q E (hr.deeper _) OF;have I:Inv (zh CX P w K mg base N qual scope f mq A outer s H E) [] (start N vs) H s1:=Ba S hr.hd e0 hl r x;refine eT (ht [] s1 (start N vs) H _ I hq) (λfl s' hs=>?_) λe s' hs=>hs
 have fin:∀{gO:St}{H':Hp}{v:V}{u:Value},Inv (zh CX P w K mg base N qual scope f mq A outer s H E) [] gO H' s'->RelV v u->Q v H'->CE outer P w H s Q u s':=
  λ{gO H' v u}J rv q=>⟨v,H',J.os,J.bare,J.base,J.dy,rv,q⟩
 cases fl with
 |ret u=>
  obtain⟨v,gO,H',J,rv,q⟩:=hs;exact fin J rv q
 |next=>
  obtain⟨gO,H',J,q⟩:=hs;exact fin (v:=V.fL) (u:=Value.none) J rfl q
 |brk=>
  obtain⟨_,_,_,q⟩:=hs;exact False.elim q
 |cont=>
  obtain⟨_,_,_,q⟩:=hs;exact False.elim q
section
variable{X:Cx}{x:Str}{p pos:Pos}{e:Expr}{es:List Expr}{t:TA}{id T:String}{r:List V->Hp->VK->Prop}
def XA(r:List V->Hp->VK->Prop)(t:TA):TE:=λσ H Q=>t σ H λvs H1=>r vs H1 Q
theorem bQ(hc:jC X (.builtin id) r)(hg:Gl X x)(hm:X.mg x=none)(hv:bootBuiltins x=some (.builtin id))(ha:PA X (e::es) t)(hn:x≠ "__name__":=by decide)(IT:(x==("__debug__":Str))=false:=by decide)
  (he:starEach (e::es) X.env=(false,eval e X.env)::starEach es X.env:=by rfl)(vC:(backTo pos (starEach es X.env)).any (·.1)=false:=by rfl):PE X (.Call (.Name x p) (e::es) [] pos) (XA r t):=by
 intro pins s σ H Q I h;refine jK (pT I hg hm hv ?_ hn IT);exact PyProof.Rows.callWith_builtin1 (eO (ha pos pins s σ H _ I h) λus s1⟨vs,H1,I1,r1,q1⟩=>hc pins s1 σ H1 vs us Q I1 r1 q1) he vC
theorem cu(hc:jC X (.type T) r)(hg:Gl X x)(hm:X.mg x=none)(hv:bootBuiltins x=some (.type T))(ha:PA X (e::es) t)(hn:x≠ "__name__":=by decide)(IT:(x==("__debug__":Str))=false:=by decide)
  (he:starEach (e::es) X.env=(false,eval e X.env)::starEach es X.env:=by rfl)(vC:(backTo pos (starEach es X.env)).any (·.1)=false:=by rfl):PE X (.Call (.Name x p) (e::es) [] pos) (XA r t):=by
 intro pins s σ H Q I h;refine jK (pT I hg hm hv ?_ hn IT);exact eN (eO (ha pos pins s σ H _ I h) λus s1⟨vs,H1,I1,r1,q1⟩=>hc pins s1 σ H1 vs us Q I1 r1 q1) he vC
end
end L2
namespace HT
open PySem PyProof.Rows
def lexLt:List Int->List Int->Bool
 | [],[]=>false
 | [],_::_=>true
 |_::_,[]=>false
 |x::xs,y::ys=>if x=y then lexLt xs ys else decide (x<y)
theorem sE(x y:Int)(xs ys:List Int):lexLt (x::xs) (y::ys)=if x=y then lexLt xs ys else decide (x<y):=rfl
theorem rF:lexLt [] []=false:=rfl
theorem yO(y:Int)(ys:List Int):lexLt [] (y::ys)=true:=rfl
theorem yP(x:Int)(xs:List Int):lexLt (x::xs) []=false:=rfl
theorem zb(A:Around)(s:Shared)(a:Int)(t:Tok)(c:Int)(u:Tok):∃e,SeqAt.EqAt A s (.int a t) (.int c u) e/\(e=true↔a=c):=
 ⟨(a==c),SeqAt.EqAt.int_int a t c u,by simp⟩
theorem Kg(A:Around)(s:Shared)(a:Int)(t:Tok)(c:Int)(u:Tok)(prog:Program)(w:World)(E:fw)(Q:fw)(h:Q (.bool (decide (a<c))) s):
  wpAny (model prog w) A (richCompare .Lt (.int a t) (.int c u)) Q E s:=
 (PyProof.Rows.lt_int h:wpAny (model prog w) A (compareOp .Lt (.int a t) (.int c u)) Q E s)
section
open PySem.SeqAt
open PySem.AutoSeq1 (wpAny_loadPart')
open PySem.MeetsSeq PySem.MeetsSeq2 PySem.MeetsSeq3
theorem zW(l b:Addr)(items dB:Array Value)(n n2:Nat)(dd LD:Option Addr)(sl Kb:Array (Option Value))(ns ms:List Int)(hi:IntsAre items.toList ns)(hj:IntsAre dB.toList ms):
  Meets (Builtin.«tuple.__lt__» ⟨[.ref l,.ref b],[]⟩)
   (λ_ R s=>s.heap.get? l=some {cls:=.type "tuple",dict:=dd,data:=.seq items n,slots:=sl}/\s.heap.get? b=some {cls:=.type "tuple",dict:=LD,data:=.seq dB n2,slots:=Kb}/\
    R (.ok (.ret (.bool (lexLt ns ms)))) s):=
 .of_wp λprog w A R s h=>by
  obtain⟨hp,g,d,tk,os⟩:=s;obtain⟨hl,hb,h⟩:=h;have f2:=AH;have z1:items.size=ns.length:=by rw[<-hi.length];simp
  have z2:dB.size=ms.length:=by rw[<-hj.length];simp
  wp_walk using iE hl,iE hb,je _ (λrest b s'=>b.1=none/\s'=⟨hp,g,d,tk,os⟩/\∃(vs ws:List Value)(jf A6:List Int),rest=vs.zip ws/\
   IntsAre vs jf/\IntsAre ws A6/\jf.length+dB.size=A6.length+items.size/\R (.ok (.ret (.bool (lexLt jf A6)))) ⟨hp,g,d,tk,os⟩) _
  case turn=>
   rintro⟨y,x⟩ rest b s' ⟨xH,rfl,vs,ws,jf,A6,hz,K6,E7,hlen,hR⟩;cases K6 with
   |nil=>rw[JA]at hz;cases hz
   |cons a t K5=>
    cases E7 with
    |nil=>rw[GJ]at hz;cases hz
    |cons c u K4=>
     rw[dH]at hz;injection hz with S9 En
     injection S9 with hy hx
     subst hy hx;rw[sE]at hR;simp only[aq]at hlen;obtain⟨e,he,Et⟩:=zb A.in1 ⟨hp,g,d,tk,os⟩ a t c u;refine aa (he prog w _ _ ?_);cases e with
     |true=>
      rw[az (Et.mp rfl)]at hR
      wp_walk
      exact⟨rfl,rfl,_,_,_,_,En,K5,K4,by omega,hR⟩
     |false=>
      rw[aw (λq=>absurd (Et.mpr q) aK)]at hR;have Tf:=Kg A.in1 ⟨hp,g,d,tk,os⟩ a t c u prog w
      wp_walk using Tf
      exact⟨_,rfl,by simpa using hR⟩
  case fin=>
   rintro⟨b1,b2⟩ s' ⟨xH,rfl,vs,ws,jf,A6,hz,K6,E7,hlen,hR⟩;simp only at xH;subst xH;have hv:lexLt jf A6=decide (items.size<dB.size):=by
    cases K6 with
    |nil=>
     cases E7 with
     |nil=>
      simp only[bR]at hlen;rw[rF];exact(aD (by omega)).symm
     |cons c u hw=>
      simp only[bR,aq]at hlen;rw[yO];exact(aJ (by omega)).symm
    |cons a t hv=>
     cases E7 with
     |nil=>
      simp only[bR,aq]at hlen;rw[yP];exact(aD (by omega)).symm
     |cons c u hw=>
      rw[dH]at hz;cases hz
   rw[hv]at hR
   wp_walk
   exact⟨_,rfl,by simpa[Builtin.Tuple.tupleCompareSizes]using hR⟩
  case h=>
   exact⟨rfl,rfl,items.toList,dB.toList,ns,ms,rfl,hi,hj,by omega,h⟩
end
section
variable{prog:Program}{w:World}{A:Around}{E:fw}{s:Shared}
theorem yM{l b:Addr}{items dB:Array Value}{ns ms:List Int}{Q:fw}(hl:IsTup s.heap l items)(hb:IsTup s.heap b dB)(hi:IntsAre items.toList ns)(hj:IntsAre dB.toList ms)
  (hu:A.units<cLine)(h:Q (.bool (lexLt ns ms)) s):wpAny (model prog w) A (compareOp .Lt (.ref l) (.ref b)) Q E s:=by
 obtain⟨⟨cls,dd,data,sl⟩,ho,hc,n,hd⟩:=id hl;obtain⟨⟨T4,LD,data2,Kb⟩,Md,IU,n2,hd2⟩:=id hb;simp only at hc hd IU hd2;subst hc hd IU hd2;exact EZ (op:=.Lt) ⟨_,ho,rfl⟩ ⟨_,Md,rfl⟩ PySem.F.slot_tuple_lt PySem.F.entry_tuple_lt (PySem.F.args_tuple_lt_2 _ _) (zW l b items dB n n2 dd LD sl Kb ns ms hi hj)
  ⟨ho,Md,show Value.bool (lexLt ns ms)≠Value.notImplemented/\Q (.bool (lexLt ns ms)) s from⟨(λx=>nomatch x),h⟩⟩ hu
def E4(n d:Nat):Option Int->Nat
 |none=>d
 |some v=>if v<0 then(v+(n:Int)).toNat else min v.toNat n
end
end HT
namespace L2
open PySem PySem.Spec PyProof.Rows
abbrev TO:=St->Hp->(Option Int->Hp->Prop)->Prop
def PO(X:Cx)(e:Option Expr)(t:TO):Prop:=
 ∀(pins:List (Addr×Obj))(s:Shared)(σ:St)(H:Hp)(Q:Option Int->Hp->Prop),Inv X pins σ H s->t σ H Q->
  wpAny (model X.prog X.w) X.A (evalPart e X.env) (λu s'=>∃o H',Inv X pins σ H' s'/\IsPart u o/\Q o H') X.xe s
def Mw:TO:=λ_ H Q=>Q none H
def R3(t:TE):TO:=λσ H Q=>t σ H λx H1=>∃i,x=.int i/\Q (some i) H1
theorem intsAre_of{ns:List Int}:∀{us:List Value},Vals (ns.map V.int) us->IntsAre us ns:=by
 induction ns with
 |nil=>intro us r;rw[kr]at r;cases r;exact .nil
 |cons n ns ih=>
  intro us r;rw[aT]at r;cases r with
  |cons r1 r2=>
   obtain⟨t,e⟩:=r1;subst e;exact .cons n t (ih r2)
section
variable{X:Cx}{e:Expr}{te:TE}{lo hi:Option Expr}{tl th:TO}{pos p2:Pos}
theorem qt:PO X none Mw:=by
 intro pins s σ H Q I h;rw[evalPart_none];exact aj ⟨none,H,I,.none,h⟩
theorem gQ(h:PE X e te):PO X (some e) (R3 te):=by
 intro pins s σ H Q I hw;rw[evalPart_some];refine eO (h pins s σ H _ I hw) λu s1⟨x,H1,I1,r1,q1⟩=>?_
 obtain⟨i,rfl,q⟩:=q1;obtain⟨t,rfl⟩:=r1;exact⟨some i,H1,I1,.int i t,q⟩
def Xq(X:Cx)(r:V->Option Int->Option Int->Hp->VK->Prop):Prop:=
 ∀(pins:List (Addr×Obj))(s:Shared)(σ:St)(H:Hp)(x:V)(v vl vu:Value)(lo hi:Option Int)(sl:Addr)(Q:VK),Inv X pins σ H s->RelV x v->s.heap.IsSliceOf sl vl vu .none->IsPart vl lo->IsPart vu hi->r x lo hi H Q->
  ∃T id,typeLookup (.type T) "__getitem__"=pure (some (.builtin id))/\s.TypeIs v T/\wpAny (model X.prog X.w) X.A (getItem v (.ref sl)) (EP X pins σ Q) X.xe s
def XO(r:V->Option Int->Option Int->Hp->VK->Prop)(te:TE)(tl th:TO):TE:=λσ H Q=>te σ H λx H1=>tl σ H1 λl H2=>th σ H2 λu H3=>r x l u H3 Q
theorem iP{r:V->Option Int->Option Int->Hp->VK->Prop}(hr:Xq X r)(he:PE X e te)(hl:PO X lo tl)(hu:PO X hi th):PE X (.Subscript e (.Slice lo hi none p2) pos) (XO r te tl th):=by
 intro pins s σ H Q I h;refine Subscript_ (eO (he pins s σ H _ I h) λv s1⟨x,H1,I1,r1,q1⟩=>?_);refine wpAny_Slice (eO (hl pins s1 σ H1 _ I1 q1) λvl s2⟨l,H2,I2,pl,q2⟩=>eO (hu pins s2 σ H2 _ I2 q2) λvu s3⟨u,H3,I3,pu,q3⟩=>?_);rw[evalPart_none];refine aj ?_;have I4:Inv X pins σ H3 {s3 with heap:=s3.heap.push {cls:=.type "slice",data:=.fields #[vl,vu,.none]}}:=I3.kept (t':=s3.toks) λb ob q=>ak _ q
 obtain⟨T,id,hT,ht,hg⟩:=hr pins {s3 with heap:=s3.heap.push {cls:=.type "slice",data:=.fields #[vl,vu,.none]}} σ H3 x v vl vu l u s3.heap.objs.size Q I4 r1 (Heap.IsSliceOf.new ..) pl pu q3;show wpAny (model X.prog X.w) X.A (subscriptTail e (.Slice lo hi none p2) v (.ref s3.heap.objs.size)) (EP X pins σ Q) X.xe {s3 with heap:=s3.heap.push {cls:=.type "slice",data:=.fields #[vl,vu,.none]}};exact tail_any (ops:=[.ref s3.heap.objs.size,v]) ht hT hg (by with_unfolding_all rfl)
def kR(xs:List V)(lo hi:Option Int):List V:=(xs.drop (HT.E4 xs.length 0 lo)).take (HT.E4 xs.length xs.length hi-HT.E4 xs.length 0 lo)
theorem EF(xs:List V)(lo hi:Option Int):(kR xs lo hi).length<=xs.length:=by
 unfold kR;rw[bW,iM];omega
def Sz(K:c9):R2:=λx y H Q=>∃a b ns ms,x=.ref a/\y=.ref b/\c8 K H a (ns.map V.int)/\c8 K H b (ms.map V.int)/\Q (.bl (HT.lexLt ns ms)) H
theorem Qe(hu:X.A.units<cLine):oX X (compareOp .Lt) (Sz X.K):=by
 intro pins s σ H x y v u Q I rx ry h;obtain⟨a,b,ns,ms,rfl,rfl,ha,hb,q⟩:=h;cases rx;cases ry;obtain⟨bU,r1,p1,_⟩:=I.tuple ha;obtain⟨mE,r2,p2,_⟩:=I.tuple hb;have i1:IntsAre bU.toArray.toList ns:=intsAre_of r1;have i2:IntsAre mE.toArray.toList ms:=intsAre_of r2;exact HT.yM p1 p2 i1 i2 hu ⟨.bl (HT.lexLt ns ms),H,I,rfl,q⟩
end
def RF(n:Nat)(i:Int):Option Nat:=if 0<=i then(if i<n then some i.toNat else none)else if -(n:Int)<=i then some (i+n).toNat else none
def Rh{α:Type}(xs:List α)(i:Int):Option α:=(RF xs.length i).bind λj=>xs[j]?
theorem NB{n:Nat}{i:Int}{j:Nat}(h:RF n i=some j):seqIndex? i n=some j/\j<n/\ -(n:Int)<=i/\i<n:=by
 unfold RF at h
 by_cases h0:0<=i
 ·rw[az h0]at h
  by_cases h1:i<n
  ·rw[az h1]at h
   have e:i.toNat=j:=bw h;exact⟨by rw[seqIndex_of h0 h1,e],by omega,by omega,h1⟩
  ·rw[aw h1]at h;cases h
 ·rw[aw h0]at h
  by_cases h1: -(n:Int)<=i
  ·rw[az h1]at h
   have e:(i+n).toNat=j:=bw h
   exact⟨by rw[seqIndex_neg (by omega) h1,e],by omega,h1,by omega⟩
  ·rw[aw h1]at h;cases h
theorem HC{α:Type}{xs:List α}{i:Int}{v:α}(h:Rh xs i=some v):∃j,seqIndex? i xs.length=some j/\xs[j]?=some v/\j<xs.length/\ -(xs.length:Int)<=i/\i<xs.length:=by
 unfold Rh at h;cases e:RF xs.length i with
 |none=>rw[e]at h;cases h
 |some j=>
  rw[e]at h;obtain⟨h1,h2,h3,h4⟩:=NB e;exact⟨j,h1,h,h2,h3,h4⟩
theorem HB{α:Type}{xs:List α}{j:Nat}{v:α}(h:xs[j]?=some v):Rh xs (j:Int)=some v:=by
 have hj:j<xs.length:=(aN.mp h).1
 have e:RF xs.length (j:Int)=some j:=by
  unfold RF;rw[az (by omega),az (by omega)];simp
 unfold Rh;rw[e];exact h
def N6(b:Expr):Prop:=∀o i,subscripted b false o i=operate [o,i] (getItem o i)
def U6(X:Cx)(r:R2):Prop:=
 ∀(value slice:Expr)(pins:List (Addr×Obj))(s:Shared)(σ:St)(H:Hp)(x y:V)(v u:Value)(Q:VK),Inv X pins σ H s->RelV x v->RelV y u->r x y H Q->
  subscripted slice false v u=operate [v,u] (getItem v u)->wpAny (model X.prog X.w) X.A (subscriptTail value slice v u) (EP X pins σ Q) X.xe s
def Xu(X:Cx)(id:String)(r:V->List V->Hp->VK->Prop):Prop:=
 ∀(pins:List (Addr×Obj))(s:Shared)(σ:St)(H:Hp)(x:V)(xs:List V)(v:Value)(us:List Value)(Q:VK),Inv X pins σ H s->RelV x v->Vals xs us->r x xs H Q->
  wpAny (model X.prog X.w) X.A (call (.builtin id) (v::us)) (EP X pins σ Q) X.xe s
section
variable{X:Cx}{a b:Expr}{ta tb:TE}{pos:Pos}
theorem cA{r:R2}(hr:U6 X r)(ha:PE X a ta)(hb:PE X b tb)(hs:N6 b):PE X (.Subscript a b pos) (Uj r ta tb):=by
 intro pins s σ H Q I h;exact Subscript_ (Rf ha hb I h λv u s2 x y H2 I2 rx ry q=>hr a b pins s2 σ H2 x y v u Q I2 rx ry q (hs _ _))
def Vv(K:c9):R2:=λx y H Q=>∃p xs i v,x=.ref p/\y=.int i/\cG K H p xs/\Rh xs i=some v/\Q v H
def SA(K:c9):R2:=λx y H Q=>∃p xs i v,x=.ref p/\y=.int i/\c8 K H p xs/\Rh xs i=some v/\Q v H
theorem cW:U6 X (Vv X.K):=by
 intro value slice pins s σ H x y v u Q I rx ry h hs;obtain⟨p,xs,i,z,rfl,rfl,hq,he,q⟩:=h;cases rx;obtain⟨t,rfl⟩:=ry;obtain⟨bU,r,pl,hz⟩:=I.list hq;obtain⟨j,h1,h2,h3,h4,h5⟩:=HC he;obtain⟨w,ew,FL⟩:=r.get h2;have hl:=r.length;have hn:=FZ;have fin:EP X pins σ Q w s:=⟨z,H,I,FL,q⟩
 by_cases h0:0<=i
 ·have hj:i.toNat=j:=by
   rw[seqIndex_of h0 h5]at h1;exact bw h1
  exact item_listR pl.isList h0 (by omega) (by rw[hj];simpa using ew) fin hs
 ·have hj:(i+(bU.toArray.size:Int)).toNat=j:=by
   rw[seqIndex_neg (by omega) h4]at h1;rw[aU,<-hl];exact bw h1
  exact subscriptTail_builtinR (x:=w) pl.isList.typeIs slot_list_getitem.lookup
   (wpAny_getItem_list_neg (Q:=λr s'=>r=w/\EP X pins σ Q r s') pl.isList (by omega) (by rw[aU]<;>omega) (by omega) (by rw[hj];simpa using ew) ⟨rfl,fin⟩) hs
theorem dg:U6 X (SA X.K):=by
 intro value slice pins s σ H x y v u Q I rx ry h hs;obtain⟨p,xs,i,z,rfl,rfl,hq,he,q⟩:=h;cases rx;obtain⟨t,rfl⟩:=ry;obtain⟨bU,r,pl,hz⟩:=I.tuple hq;obtain⟨j,h1,h2,h3,h4,h5⟩:=HC he;obtain⟨w,ew,FL⟩:=r.get h2;have hl:=r.length;have hn:=FZ;have fin:EP X pins σ Q w s:=⟨z,H,I,FL,q⟩;exact subscriptTail_builtinR (x:=w) pl.typeIs slot_tuple_getitem.lookup
  (getItem_tuple (j:=j) (Q:=λr s'=>r=w/\EP X pins σ Q r s') pl (by omega) (by omega) (by rw[aU,<-hl];exact h1) (by simpa using ew) ⟨rfl,fin⟩) hs
theorem BB(lo hi:Option Int)(n:Nat):(sliceBounds lo hi none n).1=((HT.E4 n 0 lo:Nat):Int)/\(sliceBounds lo hi none n).2.1=((HT.E4 n n hi:Nat):Int)/\(sliceBounds lo hi none n).2.2=1:=by
 refine⟨?_,?_,rfl⟩
 ·cases lo with
  |none=>simp[sliceBounds,HT.E4]
  |some i=>
   simp only[sliceBounds,HT.E4,Option.getD_none,show(1:Int)>0 by decide,dD]
   by_cases h:i<0
   ·simp only[h,dD]<;>omega
   ·simp only[h,cE]<;>omega
 ·cases hi with
  |none=>simp[sliceBounds,HT.E4]
  |some i=>
   simp only[sliceBounds,HT.E4,Option.getD_none,show(1:Int)>0 by decide,dD]
   by_cases h:i<0
   ·simp only[h,dD]<;>omega
   ·simp only[h,cE]<;>omega
theorem zY(bU:List Value)(lo hi:Option Int):slicePick bU.toArray lo hi none=((bU.drop (HT.E4 bU.length 0 lo)).take (HT.E4 bU.length bU.length hi-HT.E4 bU.length 0 lo)).toArray:=by
 obtain⟨h1,h2,h3⟩:=BB lo hi bU.toArray.size;unfold slicePick;rw[h1,h2,h3];simp only[sliceRange_one,pick_run,aU]<;>rfl
def Sw(K:c9):V->Option Int->Option Int->Hp->VK->Prop:=λx lo hi H Q=>∃a xs,x=.ref a/\cG K H a xs/\∀p,H p=none->Q (.ref p) (upd H p (.lst (kR xs lo hi)))
theorem jZ:Xq X (Sw X.K):=by
 intro pins s σ H x v vl vu lo hi sl Q I rx hs pl pu h;obtain⟨a,xs,rfl,hx,q⟩:=h;cases rx;obtain⟨bU,r,ht,hz⟩:=I.list hx;have hlen:=r.length;refine⟨"list",_,slot_list_getitem.lookup,ht.isList.typeIs,?_⟩;refine wpAny_getItem_list_slice ht.isList hs pl pu .none (by simp) ?_ (by rw[aU]<;>omega);rw[zY,<-hlen];refine⟨.ref s.heap.objs.size,_,I.laid (t':=s.toks) (o:=.lst (kR xs lo hi)) (λb ob q=>ak _ q) (ay _) ?_,rfl,q _ (I.dy.fresh (ay _))⟩;exact⟨bf (EF xs lo hi) hz,_,0,(r.drop (HT.E4 xs.length 0 lo)).take (HT.E4 xs.length xs.length hi-HT.E4 xs.length 0 lo),aO _ rfl⟩
def uA:V->Bool
 | .fL=>true
 | .bl _=>true
 | .int _=>true
 | .str _=>true
 |_=>false
def Ml:V->V->Bool
 | .fL,.fL=>true
 | .bl a,.bl b=>a==b
 | .bl a,.int b=>(if a then 1 else 0)==b
 | .int a,.bl b=>a==(if b then 1 else 0)
 | .int a,.int b=>a==b
 | .str a,.str b=>a==b
 |_,_=>false
theorem Q3{A:Around}{s:Shared}{y x:V}{u v:Value}(ry:RelV y u)(rx:RelV x v)(fy:uA y=true)(fx:uA x=true):SeqAt.EqAt A s u v (Ml y x):=by
 cases y with
 |fL=>
  cases ry;cases x with
  |fL=>cases rx;exact SeqAt.EqAt.same _
  |bl b=>cases rx;exact SeqAt.EqAt.none_bool b
  |int b=>obtain⟨t,rfl⟩:=rx;exact SeqAt.EqAt.none_int b t
  |str b=>obtain⟨t,rfl⟩:=rx;exact SeqAt.EqAt.none_str b t
  |_=>exact absurd (show false=true from fx) aK
 |bl a=>
  cases ry;cases x with
  |fL=>cases rx;exact SeqAt.EqAt.bool_none a
  |bl b=>cases rx;exact SeqAt.EqAt.bool_bool a b
  |int b=>obtain⟨t,rfl⟩:=rx;exact SeqAt.EqAt.bool_int a b t
  |str b=>obtain⟨t,rfl⟩:=rx;exact SeqAt.EqAt.bool_str a b t
  |_=>exact absurd (show false=true from fx) aK
 |int a=>
  obtain⟨t',rfl⟩:=ry;cases x with
  |fL=>cases rx;exact SeqAt.EqAt.int_none a t'
  |bl b=>cases rx;exact SeqAt.EqAt.int_bool a t' b
  |int b=>obtain⟨t,rfl⟩:=rx;exact SeqAt.EqAt.int_int a t' b t
  |str b=>obtain⟨t,rfl⟩:=rx;exact SeqAt.EqAt.int_str a t' b t
  |_=>exact absurd (show false=true from fx) aK
 |str a=>
  obtain⟨t',rfl⟩:=ry;cases x with
  |fL=>cases rx;exact SeqAt.EqAt.str_none a t'
  |bl b=>cases rx;exact SeqAt.EqAt.str_bool a t' b
  |int b=>obtain⟨t,rfl⟩:=rx;exact SeqAt.EqAt.str_int a t' b t
  |str b=>obtain⟨t,rfl⟩:=rx;exact SeqAt.EqAt.str_str a t' b t
  |_=>exact absurd (show false=true from fx) aK
 |_=>exact absurd (show false=true from fy) aK
def NR(x:V)(u:Value):Bool:=match u with
 | .none=>Ml .fL x
 | .bool b=>Ml (.bl b) x
 | .int i _=>Ml (.int i) x
 | .str z _=>Ml (.str z) x
 |_=>false
theorem Lw{x y:V}{u:Value}(r:RelV y u)(f:uA y=true):NR x u=Ml y x:=by
 cases y with
 |fL=>cases r;rfl
 |bl b=>cases r;rfl
 |int i=>obtain⟨t,rfl⟩:=r;rfl
 |str z=>obtain⟨t,rfl⟩:=r;rfl
 |_=>exact absurd (show false=true from f) aK
theorem CV{x:V}:∀{xs:List V}{us:List Value},Vals xs us->xs.all uA=true->us.any (NR x)=xs.any λy=>Ml y x
 |_,_,.nil,_=>rfl
 |y::xs,u::us,.cons r t,f=>by
  rw[jg,a6]at f;rw[ic,ic,Lw r f.1,CV t f.2]
theorem yL{A:Around}{s:Shared}{x:V}{v:Value}(rx:RelV x v)(fx:uA x=true):∀{xs:List V}{us:List Value},Vals xs us->xs.all uA=true->∀u∈us,SeqAt.EqAt A s u v (NR x u)
 |_,_,.nil,_=>λu hu=>by cases hu
 |y::xs,u::us,.cons r t,f=>λu' hu=>by
  rw[jg,a6]at f;rcases aB.mp hu with rfl|hu
  ·rw[Lw r f.1];exact Q3 r rx f.1 fx
  ·exact yL rx fx t f.2 u' hu
def QG(x:V)(xs:List V):Bool:=xs.any λy=>Ml y x
def XT(K:c9)(neg:Bool):R2:=λx y H Q=>∃p xs,y=.ref p/\(cG K H p xs\/c8 K H p xs)/\uA x=true/\xs.all uA=true/\Q (.bl (if neg then !QG x xs else QG x xs)) H
theorem A4:oX X (compareOp .In) (XT X.K false):=by
 intro pins s σ H x y v u Q I rx ry h;obtain⟨p,xs,rfl,hq,fx,fs,q⟩:=h;cases ry;rcases hq with hq|hq
 ·obtain⟨bU,r,pl,hz⟩:=I.list hq
  refine SeqAt.in_listAt (NR x) pl.isList (λw hw=>yL rx fx r fs w (by simpa using hw)) ⟨.bl _,H,I,rfl,?_⟩;rw[show bU.toArray.any (NR x)=bU.any (NR x) by simp,CV r fs];exact q
 ·obtain⟨bU,r,pl,hz⟩:=I.tuple hq
  refine SeqAt.in_tupleAt (NR x) pl (λw hw=>yL rx fx r fs w (by simpa using hw)) ⟨.bl _,H,I,rfl,?_⟩;rw[show bU.toArray.any (NR x)=bU.any (NR x) by simp,CV r fs];exact q
theorem cK:jC X (.builtin "len") (λxs H Q=>∃p ys,xs=[.ref p]/\(cG X.K H p ys\/c8 X.K H p ys)/\Q (.int ys.length) H):=by
 intro pins s σ H xs us Q I r h;obtain⟨p,ys,rfl,hq,q⟩:=h;obtain⟨u,rfl,rx⟩:=vals1 r;cases rx;have hn:=FZ;rcases hq with hq|hq
 ·obtain⟨bU,r',pl,hz⟩:=I.list hq
  have hlen:=r'.length;exact Calls.call_len_list pl.isList (by simp only[aU]<;>omega) ⟨.int ys.length,H,I.tok _,⟨s.toks+1,by rw[aU,hlen]⟩,q⟩
 ·obtain⟨bU,r',pl,hz⟩:=I.tuple hq
  have hlen:=r'.length;exact len_tuple pl (by simp only[aU]<;>omega) ⟨.int ys.length,H,I.tok _,⟨s.toks+1,by rw[aU,hlen]⟩,q⟩
theorem dY:jC X (.type "list") (λxs H Q=>∃p ys,xs=[.ref p]/\(cG X.K H p ys\/c8 X.K H p ys)/\∀l,H l=none->Q (.ref l) (upd H l (.lst ys))):=by
 intro pins s σ H xs us Q I r h;obtain⟨p,ys,rfl,hq,q⟩:=h;obtain⟨u,rfl,rx⟩:=vals1 r;cases rx;have fin:∀(bU:List Value),Vals ys bU->ys.length<=sizeLine->∀(h':Heap)(c':Nat),(∀b o',s.heap.get? b=some o'->h'.get? b=some o')->
   h'.get? s.heap.objs.size=some {cls:=.type "list",dict:=none,data:=.seq bU.toArray c',slots:=#[]}->EP X pins σ Q (.ref s.heap.objs.size) {s with heap:=h'}:=λbU r' hz h' c' kp e=>
  ⟨.ref s.heap.objs.size,_,I.laid (t':=s.toks) kp (ay _) (show fz X.prog X.w _ h' _ (.lst ys)from⟨hz,bU,c',r',e⟩),rfl,q _ (I.dy.fresh (ay _))⟩
 rcases hq with hq|hq
 ·obtain⟨bU,r',pl,hz⟩:=I.list hq
  have hlen:=r'.length;obtain⟨o,ho,hc,n,hd⟩:=pl.isList;exact call_list_seq p (.inl rfl) ho hc hd (λh' c' kp e=>fin bU r' hz h' c' kp e) (by simp only[aU]<;>omega)
 ·obtain⟨bU,r',pl,hz⟩:=I.tuple hq
  have hlen:=r'.length;obtain⟨o,ho,hc,n,hd⟩:=pl;exact call_list_seq p (.inr rfl) ho hc hd (λh' c' kp e=>fin bU r' hz h' c' kp e) (by simp only[aU]<;>omega)
theorem cQ:jC X (.type "tuple") (λxs H Q=>∃p ys,xs=[.ref p]/\((cG X.K H p ys/\∀l,H l=none->Q (.ref l) (upd H l (.tup ys)))\/(c8 X.K H p ys/\Q (.ref p) H))):=by
 intro pins s σ H xs us Q I r h;obtain⟨p,ys,rfl,h⟩:=h;obtain⟨u,rfl,rx⟩:=vals1 r;cases rx;rcases h with⟨hq,q⟩|⟨hq,q⟩
 ·obtain⟨bU,r',pl,hz⟩:=I.list hq
  have hlen:=r'.length;refine call_tuple_list pl.isList (λh' kp=>?_) (by simp only[aU]<;>omega);have I1:Inv X pins σ H {s with heap:=h'}:=I.kept (t':=s.toks) kp;have I2:Inv X pins σ (upd H h'.objs.size (.tup ys)) {s with heap:=h'.push {cls:=.type "tuple",data:=.seq bU.toArray}}:=
   I1.laid (t':=s.toks) (λb o e=>ak _ e) (ay _) (show fz X.prog X.w _ _ _ (.tup ys)from⟨hz,bU,r',IsTup.new _ _⟩)
  exact⟨.ref h'.objs.size,_,I2,rfl,q _ (I1.dy.fresh (ay _))⟩
 ·obtain⟨bU,r',pl,hz⟩:=I.tuple hq
  exact call_tuple_same pl ⟨.ref p,H,I,rfl,q⟩
def Vb(K:c9)(T:String)(x:V)(H:Hp):Prop:=match x with
 | .str _=>T="str"
 | .int _=>T="int"
 | .ref p=>(T="list"/\∃xs,cG K H p xs)\/(T="tuple"/\∃o,K.lookup p=some o/\o.cls=.type "tuple"/\o.dict=none)\/
   (T="dict"/\((∃bJ,H p=some (.dK bJ))\/∃bJ,H p=some (.dT bJ)))\/(T="set"/\∃S n,H p=some (.set S n))
 |_=>False
theorem JT{pins:List (Addr×Obj)}{σ:St}{H:Hp}{s:Shared}{T:String}{x:V}{v:Value}(I:Inv X pins σ H s)(r:RelV x v)(ty:Vb X.K T x H):
  s.TypeIs v T/\∀a,v=.ref a->∃ob,s.heap.get? a=some ob/\ob.dict=none:=by
 cases x with
 |str z=>
  obtain⟨t,rfl⟩:=r;cases(show T="str" from ty);exact⟨typeIs_str s z t,λ_ e=>nomatch e⟩
 |int i=>
  obtain⟨t,rfl⟩:=r;cases(show T="int" from ty);exact⟨typeIs_int s i t,λ_ e=>nomatch e⟩
 |ref p=>
  cases r;rcases ty with⟨rfl,xs,hq⟩|⟨rfl,o,hk,hc,hd⟩|⟨rfl,hk⟩|⟨rfl,S,n,hk⟩
  ·obtain⟨bU,_,pl,_⟩:=I.list hq
   refine⟨pl.isList.typeIs,λa e=>?_⟩;cases e;obtain⟨o,n,e,c,hd,_⟩:=pl;exact⟨o,e,hd⟩
  ·refine⟨⟨o,I.E6 p o hk,hc⟩,λa e=>?_⟩
   cases e;exact⟨o,I.E6 _ o hk,hd⟩
  ·have z:∃o,s.heap.get? p=some o/\o.ExactDict:=by
    rcases hk with⟨bJ,hk⟩|⟨bJ,hk⟩
    ·obtain⟨_,_,_,_,o,_,_,e,ex,_⟩:=I.dy p _ hk
     exact⟨o,e,ex⟩
    ·obtain⟨_,_,_,_,o,_,_,e,ex,_⟩:=I.dy p _ hk
     exact⟨o,e,ex⟩
   obtain⟨o,e,ex⟩:=z;refine⟨⟨o,e,ex.1⟩,λa e2=>?_⟩;cases e2;exact⟨o,e,ex.2.1⟩
  ·obtain⟨o,_,_,_,e,ex,_⟩:=I.dy p _ hk
   refine⟨⟨o,e,ex.1⟩,λa e2=>?_⟩;cases e2;exact⟨o,e,ex.2.1⟩
 |_=>exact False.elim ty
def Vk(K:c9)(T:String)(r:V->List V->Hp->VK->Prop)(to:TE):TE:=λσ H Q=>to σ H λx H1=>Vb K T x H1/\r x [] H1 Q
def XR(K:c9)(T:String)(r:V->List V->Hp->VK->Prop)(to:TE)(t:TA):TE:=λσ H Q=>to σ H λx H1=>Vb K T x H1/\t σ H1 λxs H2=>r x xs H2 Q
variable{o e:Expr}{es:List Expr}{to:TE}{t:TA}{name:Str}{apos jI:Pos}{T id:String}{r:V->List V->Hp->VK->Prop}
theorem P6(pa:PlainAttrs T)(slot:Slot T name id)(V9:typeOf (.builtin id)=pure (.type "method_descriptor"))(hm:Xu X id r)(ho:PE X o to)
  (Ew:attributeBase o name X.env (eval o X.env)=eval o X.env:=by rfl)(Er:(apos.endLine==jI.line)=true:=by rfl):PE X (.Call (.Attribute o name apos) [] [] jI) (Vk X.K T r to):=by
 intro pins s σ H Q I h;refine wpAny_Call_method0_late Ew Er (eO (ho pins s σ H _ I h) λv s1⟨x,H1,I1,r1,ty,q1⟩=>?_);obtain⟨h1,h2⟩:=JT I1 r1 ty;exact⟨T,id,pa,slot,V9,h1,h2,oU rfl (PySem.evalArgs_none (hm pins s1 σ H1 x [] v [] Q I1 r1 .nil q1))⟩
theorem oM(pa:PlainAttrs T)(slot:Slot T name id)(V9:typeOf (.builtin id)=pure (.type "method_descriptor"))(hm:Xu X id r)(ho:PE X o to)(ha:PA X (e::es) t)
  (Ew:attributeBase o name X.env (eval o X.env)=eval o X.env:=by rfl)
  (WM:((backTo jI (starEach (e::es) X.env)).all (λx=>!x.1)&&(backToKw jI (keywordEach [] X.env)).all (λx=>x.1.isSome)
   &&decide ((e::es).length+([]:List Keyword).length+(if([]:List Keyword).isEmpty then 0 else 1)<30))=true:=by rfl)
  (Er:(apos.endLine==jI.line)=true:=by rfl) (hs:starEach (e::es) X.env=(false,eval e X.env)::starEach es X.env:=by rfl) (QK:(backTo jI (starEach es X.env)).any (·.1)=false:=by rfl):
  PE X (.Call (.Attribute o name apos) (e::es) [] jI) (XR X.K T r to t):=by
 intro pins s σ H Q I h;refine wpAny_Call_method_late Ew WM Er rfl (eO (ho pins s σ H _ I h) λv s1⟨x,H1,I1,r1,ty,q1⟩=>?_);obtain⟨h1,h2⟩:=JT I1 r1 ty;refine⟨T,id,pa,slot,V9,h1,h2,?_⟩;have hA:=ha jI pins s1 σ H1 _ I1 q1;rw[hs]at hA⊢;refine oU (by show(false||(backTo jI (starEach es X.env)).any (·.1))=false;rw[QK]<;>rfl) (JF ?_)
 exact eO hA λus s2⟨vs,H2,I2,r2,q2⟩=>hm pins s2 σ H2 x vs v us Q I2 r1 r2 q2
end
def Xv(X:Cx)(id:String)(r:V->List V->Hp->VK->Prop):Prop:=
 ∀(pins:List (Addr×Obj))(s:Shared)(σ:St)(H:Hp)(x:V)(xs:List V)(v:Value)(us:List Value)(Q:VK),Inv X pins σ H s->RelV x v->Vals xs us->r x xs H Q->
  wpAny (model X.prog X.w) X.A (call (.builtin id) (v::us)) (EP X pins σ Q) X.xe s
theorem Vals.one:∀{x:V}{us:List Value},Vals [x] us->∃u,us=[u]/\RelV x u
 |_,_,.cons r .nil=>⟨_,rfl,r⟩
theorem Vals.zero:∀{us:List Value},Vals [] us->us=[]
 |_,.nil=>rfl
theorem Vals.dropLast{xs:List V}{us:List Value}(h:Vals xs us):Vals xs.dropLast us.dropLast:=by
 induction h with
 |nil=>exact .nil
 |cons r t ih=>
  cases t with
  |nil=>exact .nil
  |cons q t'=>exact .cons r ih
theorem Gk{α:Type}(l:List α):l.eraseIdx (l.length-1)=l.dropLast:=by
 induction l with
 |nil=>rfl
 |cons a r ih=>
  cases r with
  |nil=>rfl
  |cons b r=>
   have e:(a::b::r).length-1=((b::r).length-1)+1:=by
    have h1:(a::b::r).length=r.length+2:=rfl
    have h2:(b::r).length=r.length+1:=rfl
    omega
   rw[e,List.eraseIdx_cons_succ,ih]
   all_goals rfl
section
variable{X:Cx}{pins:List (Addr×Obj)}{σ:St}{H:Hp}{s:Shared}{l b:Addr}{xs ys zs:List V}
theorem Inv.KR{bU its':List Value}{n:Nat}{f:Array Value->Array Value}{t':Nat}(I:Inv X pins σ H s)(hH:H l=some (.lst xs))
  (e:s.heap.get? l=some {cls:=.type "list",data:=.seq bU.toArray n})(hf:f bU.toArray=its'.toArray)(hv:Vals ys its')(hz:ys.length<=sizeLine):
  Inv X pins σ (upd H l (.lst ys)) {s with heap:=s.heap.update l (Obj.mapSeq f),toks:=t'}:=by
 have q:=PySem.IsL.update e f;rw[hf]at q;refine I.write (x:=l) (e:=l) (by rw[hH];exact trivial) (.inl rfl) (λb' u hb hu=>(gJ s.heap (Obj.mapSeq f) (fZ hb)).trans hu) ⟨_,q⟩ ?_
 exact⟨hz,its',_,hv,q⟩
theorem Inv.VP{bU:List Value}{t':Nat}(I:Inv X pins σ H s)(hv:Vals ys bU)(hz:ys.length<=sizeLine):
  Inv X pins σ (upd H s.heap.objs.size (.lst ys)) {s with heap:=s.heap.push {cls:=.type "list",data:=.seq bU.toArray},toks:=t'}:=
 I.laid (λ_ _ q=>ak _ q) (ay _) ⟨hz,bU,0,hv,aO _ rfl⟩
theorem Inv.fresh(I:Inv X pins σ H s):H s.heap.objs.size=none:=I.dy.fresh (ay _)
theorem Inv.Ea(I:Inv X pins σ H s)(hH:H l=some (.lst xs)):xs.length<=sizeLine/\∃(bU:List Value)(n:Nat),Vals xs bU/\xs.length=bU.length/\s.heap.get? l=some {cls:=.type "list",data:=.seq bU.toArray n}:=by
 obtain⟨z,bU,n,r,e⟩:=I.dy l _ hH;exact⟨z,bU,n,r,r.length,e⟩
theorem KH{n:Nat}(h:n<=sizeLine):Builtin.List.listTooLong n=false:=by
 unfold Builtin.List.listTooLong;exact aD (by omega)
end
section
variable{X:Cx}
def M8:V->List V->Hp->VK->Prop:=λx vs H Q=>∃l xs y,x=.ref l/\vs=[y]/\H l=some (.lst xs)/\xs.length<sizeLine/\Q .fL (upd H l (.lst (xs++ [y])))
theorem qu:Xv X "list.append" M8:=by
 intro pins s σ H x vs v us Q I rx rv h;obtain⟨l,xs,y,rfl,rfl,hH,hz,q⟩:=h;cases rx;obtain⟨u,rfl,ru⟩:=rv.one;obtain⟨z,bU,n,r,hl,e⟩:=I.Ea hH;refine call_meets F.slot_list_append ⟨_,e,rfl⟩ F.entry_list_append (F.args_list_append_2 _ _) (PySem.list_append l bU.toArray n u (by rw[aU];omega)) ⟨e,?_⟩;refine⟨.fL,_,I.KR (its':=bU++ [u]) hH e (by simp) (r.append (.cons ru .nil)) ?_,rfl,q⟩;rw[aA,jE];omega
def M5:V->List V->Hp->VK->Prop:=λx vs H Q=>∃l b xs zs,x=.ref l/\vs=[.ref b]/\H l=some (.lst xs)/\H b=some (.lst zs)/\xs.length+zs.length<=sizeLine/\Q .fL (upd H l (.lst (xs++zs)))
theorem jN:Xv X "list.extend" M5:=by
 intro pins s σ H x vs v us Q I rx rv h;obtain⟨l,b,xs,zs,rfl,rfl,hH,hB,hz,q⟩:=h;cases rx;obtain⟨u,rfl,ru⟩:=rv.one;cases ru;obtain⟨z,bU,n,r,hl,e⟩:=I.Ea hH;obtain⟨z2,mE,n2,r2,rH,e2⟩:=I.Ea hB;have hsz:bU.toArray.size+mE.toArray.size<=sizeLine:=by rw[aU,aU];omega
 have Tj:¬(!bU.toArray.isEmpty&&Builtin.List.listTooLong (bU.toArray.size+mE.toArray.size))=true:=by
  rw[KH hsz,C7];exact aK
 refine call_meets F.slot_list_extend ⟨_,e,rfl⟩ F.entry_list_extend (F.args_list_extend_2 _ _)
  (AutoSeq1.list_extend_list_list_0 l bU.toArray n b mE.toArray n2 Tj (by rw[aU];omega) (by omega)) ⟨e,e2,?_⟩
 refine⟨.fL,_,I.KR (its':=bU++mE) hH e (by simp) (r.append r2) ?_,rfl,q⟩;rw[aA];omega
def Vs:V->List V->Hp->VK->Prop:=λx vs H Q=>∃l xs y,x=.ref l/\vs=[]/\H l=some (.lst xs)/\xs[xs.length-1]?=some y/\Q y (upd H l (.lst xs.dropLast))
theorem Qp:Xv X "list.pop" Vs:=by
 intro pins s σ H x vs v us Q I rx rv h;obtain⟨l,xs,y,rfl,rfl,hH,hy,q⟩:=h;cases rx;have hus:=rv.zero;subst hus;obtain⟨z,bU,n,r,hl,e⟩:=I.Ea hH;obtain⟨u,hu,ru⟩:=r.get hy;have hy':bU.toArray[bU.toArray.size-1]?=some u:=by
  show bU.toArray[bU.length-1]?=some u;rw[<-dA,<-hl];exact hu
 refine call_meets F.slot_list_pop ⟨_,e,rfl⟩ F.entry_list_pop (F.args_list_pop_1 _) (MeetsSeq.list_pop_last l bU.toArray n u hy' (by rw[aU];omega)) ⟨e,?_⟩;refine⟨y,_,I.KR (its':=bU.dropLast) hH e ?_ r.dropLast ?_,ru,q⟩
 ·show bU.toArray.eraseIdxIfInBounds (bU.toArray.size-1)=bU.dropLast.toArray
  rw[aU,List.eraseIdxIfInBounds_toArray,Gk]
 ·rw[List.length_dropLast]
  omega
def Vx:R2:=λx y H Q=>∃l b xs zs,x=.ref l/\y=.ref b/\H l=some (.lst xs)/\H b=some (.lst zs)/\xs.length+zs.length<=sizeLine/\∀p,H p=none->Q (.ref p) (upd H p (.lst (xs++zs)))
theorem iH:oX X (binaryOp .Add) Vx:=by
 intro pins s σ H x y v u Q I rx ry h;obtain⟨l,b,xs,zs,rfl,rfl,hH,hB,hz,q⟩:=h;cases rx;cases ry;obtain⟨z,bU,n,r,hl,e⟩:=I.Ea hH;obtain⟨z2,mE,n2,r2,rH,e2⟩:=I.Ea hB;refine PySem.P.add_list e e2 ?_ (by rw[aU,aU];omega);have ea:bU.toArray++mE.toArray=(bU++mE).toArray:=by simp
 rw[ea];exact⟨.ref _,_,I.VP (t':=s.toks) (r.append r2) (by rw[aA];omega),rfl,q _ I.fresh⟩
end
theorem Vals.ints:∀{ns:List Int}{us:List Value},Vals (ns.map V.int) us->IntsAre us ns
 | [],us,h=>by
  rw[kr]at h;cases h;exact IntsAre.nil
 |n::ns,us,h=>by
  rw[aT]at h;cases h with
  |cons r t=>
   obtain⟨k,rfl⟩:=r;exact IntsAre.cons n k (Vals.ints t)
theorem ie:∀{us:List Value}{ns:List Int},IntsAre us ns->Vals (ns.map V.int) us
 |_,_,.nil=>by rw[kr];exact Paired.nil
 |_,_,.cons n t h=>by rw[aT];exact Paired.cons (show RelV (V.int n) (Value.int n t)from⟨t,rfl⟩) (ie h)
theorem Vals.Xk:∀{bs:List Bool}{us:List Value},Vals (bs.map V.bl) us->us=bs.map Value.bool
 | [],us,h=>by
  rw[kr]at h;cases h;rfl
 |b::bs,us,h=>by
  rw[aT]at h;cases h with
  |cons r t=>
   cases r;rw[Vals.Xk t,aT]
theorem Vals.yl{a:Addr}{us:List Value}(r:Vals [V.ref a] us):us=[Value.ref a]:=by
 cases r with
 |cons r t=>
  cases t;cases r;rfl
section
variable{X:Cx}
def M4(K:c9):List V->Hp->VK->Prop:=λvs H Q=>∃(a:Addr)(ns:List Int),vs=[V.ref a]/\cG K H a (ns.map V.int)/\ns.length<64/\
 ∀(jf:List Int)(p:Addr),jf.Perm ns->jf.Pairwise (· <= ·)->H p=none->Q (.ref p) (upd H p (.lst (jf.map V.int)))
theorem BA{n:Nat}(h:n<64):n<=sizeLine:=by rw[bo];omega
theorem Bh:jC X (.builtin "sorted") (M4 X.K):=by
 intro pins s σ H vs us Q I r h;obtain⟨a,ns,rfl,hs,OM,q⟩:=h;obtain⟨bU,rv,hl,_⟩:=I.list hs;rw[Vals.yl r];have hi:=rv.ints;refine PyProof.Rows.sorted_ints hl.isList hi (by rw[hi.length];exact OM) λout jf h1 h2 h3=>?_
 obtain⟨ep,Lf⟩:=PyProof.Rows.sortedAll_at s.heap bU out;have hlen:(jf.map V.int).length<=sizeLine:=by rw[ab,h2.length_eq];exact BA OM
 exact⟨.ref _,upd H (s.heap.objs.size+1) (.lst (jf.map V.int)),I.laid (t':=s.toks) (λ_ _=>PyProof.Rows.sortedAll_old) (lR _) ⟨hlen,out.toList,ep,ie h1,Lf⟩,rfl,q jf _ h2 h3 (I.dy.fresh (lR _))⟩
end
theorem Ej{prog:Program}{w:World}{A:Around}{E:fw}{s:Shared}{l:Addr}{items:Array Value}{Q:fw}(hl:s.heap.IsList l items)
  (h:∀kC:Shared,kC={s with heap:=s.heap.push {cls:=.type "list_iterator",data:=.fields #[.ref l,.int 0 0]}}->
   (kC.heap.IsListIter s.heap.objs.size l 0/\kC.heap.IsList l items)->l≠s.heap.objs.size->Q (.ref s.heap.objs.size) kC):wpAny (model prog w) A (pyIter (.ref l)) Q E s:=by
 have lT:l<s.heap.objs.size:=by obtain⟨_,e,_⟩:=hl;exact aM e
 exact zQ hl (h _ rfl ⟨⟨_,aO _ rfl,rfl,rfl⟩,hl.push _⟩ (a0 lT))
theorem vY{prog:Program}{w:World}{A:Around}{bs:List Bool}{bU:List Value}(e:bU=bs.map Value.bool):
  TruthOf prog w A (λi v=>bU.toArray[i]?=some v) (λi=>bs.getD i false):=λi v s Q E hv hq=>by
 have QI:bU[i]?=some v:=by simpa using hv
 rw[e,aW]at QI;obtain⟨b,hb,rfl⟩:=bO.mp QI;have hg:bs.getD i false=b:=by rw[aE,hb]<;>rfl
 have De:Q (bs.getD i false) s:=hq;rw[hg]at De;exact dG De
theorem any_range:∀bs:List Bool,(List.range bs.length).any (λi=>bs.getD i false)=bs.any id
 | []=>rfl
 |b::bs=>by
  rw[aq,List.range_succ_eq_map,ic,List.any_map,ic,<-any_range bs]
  all_goals rfl
theorem all_range:∀bs:List Bool,(List.range bs.length).all (λi=>bs.getD i false)=bs.all id
 | []=>rfl
 |b::bs=>by
  rw[aq,List.range_succ_eq_map,jg,List.all_map,jg,<-all_range bs]
  all_goals rfl
section
variable{X:Cx}
def Vy(K:c9):List V->Hp->VK->Prop:=λvs H Q=>∃(a:Addr)(bs:List Bool),vs=[V.ref a]/\cG K H a (bs.map V.bl)/\Q (.bl (bs.any id)) H
def Vz(K:c9):List V->Hp->VK->Prop:=λvs H Q=>∃(a:Addr)(bs:List Bool),vs=[V.ref a]/\cG K H a (bs.map V.bl)/\Q (.bl (bs.all id)) H
theorem LQ(hc:X.calm=true):jC X (.builtin "any") (Vy X.K):=by
 intro pins s σ H vs us Q I r h;obtain⟨a,bs,rfl,hs,q⟩:=h;obtain⟨bU,rv,hl,_⟩:=I.list hs;rw[Vals.yl r];have hb:=rv.Xk;refine call_any_walk (Ej hl.isList λkC e2 st vE=>?_);subst e2;refine⟨_,_,_,_,_,_,_,rfl,Walks.list (A:=X.A.in1) (I.ok.hd hc) _ a vE bU.toArray,st,vY hb,λh' tk hk=>?_⟩;refine⟨.bl _,H,I.kept λb o eo=>hk b o (λgv=>?_) (ak _ eo),?_,q⟩
 ·rcases aB.mp gv with e1|gv
  ·exact absurd (e1▸aM eo) (dJ _)
  ·cases gv
 ·show Value.bool _=Value.bool _
  rw[<-any_range,hb,aU,ab]
theorem vN(hc:X.calm=true):jC X (.builtin "all") (Vz X.K):=by
 intro pins s σ H vs us Q I r h;obtain⟨a,bs,rfl,hs,q⟩:=h;obtain⟨bU,rv,hl,_⟩:=I.list hs;rw[Vals.yl r];have hb:=rv.Xk;refine call_all_walk (Ej hl.isList λkC e2 st vE=>?_);subst e2;refine⟨_,_,_,_,_,_,_,rfl,Walks.list (A:=X.A.in1) (I.ok.hd hc) _ a vE bU.toArray,st,vY hb,λh' tk hk=>?_⟩;refine⟨.bl _,H,I.kept λb o eo=>hk b o (λgv=>?_) (ak _ eo),?_,q⟩
 ·rcases aB.mp gv with e1|gv
  ·exact absurd (e1▸aM eo) (dJ _)
  ·cases gv
 ·show Value.bool _=Value.bool _
  rw[<-all_range,hb,aU,ab]
end
mutual
inductive Dp(K:c9)(H:Hp):V->PyData->Prop
 |fL:Dp K H .fL .none
 |bl (b:Bool):Dp K H (.bl b) (.bool b)
 |int (i:Int):Dp K H (.int i) (.int i)
 |str (x:Str):Dp K H (.str x) (.str x)
 |lst {a:Addr} {xs:List V} {ds:List PyData}:cG K H a xs->zF K H xs ds->Dp K H (.ref a) (.list ds)
 |tup {a:Addr} {xs:List V} {ds:List PyData}:c8 K H a xs->zF K H xs ds->Dp K H (.ref a) (.tuple ds)
inductive zF(K:c9)(H:Hp):List V->List PyData->Prop
 |nil:zF K H [] []
 |cons {v:V} {vs:List V} {d:PyData} {ds:List PyData}:Dp K H v d->zF K H vs ds->zF K H (v::vs) (d::ds)
end
section
variable{X:Cx}{pins:List (Addr×Obj)}{σ:St}{H:Hp}{s:Shared}
mutual
theorem Dp.reads(I:Inv X pins σ H s):∀(d:PyData)(v:V)(u:Value),Dp X.K H v d->RelV v u->∃as,Reads s.heap u d as
 | .none,_,_,h,r=>by
  cases h;cases r;exact⟨_,Reads.none⟩
 | .bool b,_,_,h,r=>by
  cases h;cases r;exact⟨_,Reads.bool b⟩
 | .int i,_,_,h,r=>by
  cases h;obtain⟨t,rfl⟩:=r;exact⟨_,Reads.int i t⟩
 | .str x,_,_,h,r=>by
  cases h;obtain⟨t,rfl⟩:=r;exact⟨_,Reads.str x t⟩
 | .list ds,_,_,h,r=>by
  cases h with
  |lst hs ha=>
   cases r;obtain⟨bU,rv,⟨o,n,ho,hc,_,hd⟩,_⟩:=I.list hs;obtain⟨as,hr⟩:=Dp.readsAll I ds _ bU ha rv;exact⟨_,Reads.list ho hc hd hr⟩
 | .tuple ds,_,_,h,r=>by
  cases h with
  |tup hs ha=>
   cases r;obtain⟨bU,rv,⟨o,ho,hc,n,hd⟩,_⟩:=I.tuple hs;obtain⟨as,hr⟩:=Dp.readsAll I ds _ bU ha rv;exact⟨_,Reads.tuple ho hc hd hr⟩
 | .dict _,_,_,h,_=>by cases h
theorem Dp.readsAll(I:Inv X pins σ H s):∀(ds:List PyData)(vs:List V)(us:List Value),zF X.K H vs ds->Vals vs us->∃as,ReadsAll s.heap us ds as
 | [],_,_,h,r=>by
  cases h;cases r;exact⟨_,ReadsAll.nil⟩
 |d::ds,_,_,h,r=>by
  cases h with
  |cons h1 h2=>
   cases r with
   |cons r1 r2=>
    obtain⟨as,q1⟩:=Dp.reads I d _ _ h1 r1;obtain⟨bs,q2⟩:=Dp.readsAll I ds _ _ h2 r2;exact⟨_,ReadsAll.cons q1 q2⟩
end
end
section
variable{X:Cx}
def SD(K:c9):R2:=λx y H Q=>∃d e,Dp K H x d/\Dp K H y e/\SeqAt.shaped d=true/\SeqAt.shaped e=true/\Q (.bl (PyData.eqv d e)) H
def Vt(K:c9):R2:=λx y H Q=>∃d e,Dp K H x d/\Dp K H y e/\SeqAt.shaped d=true/\SeqAt.shaped e=true/\Q (.bl (!PyData.eqv d e)) H
theorem Qi(hu:X.A.units+64<cLine):oX X (compareOp .Eq) (SD X.K):=by
 intro pins s σ H x y v u Q I rx ry h;obtain⟨d,e,hd,he,sd,se,q⟩:=h;obtain⟨as,r1⟩:=Dp.reads I d x v hd rx;obtain⟨bs,r2⟩:=Dp.reads I e y u he ry;exact SeqAt.compareEq_shaped r1 r2 sd se hu ⟨.bl _,H,I,rfl,q⟩
theorem Qb(hu:X.A.units+64<cLine):oX X (compareOp .NotEq) (Vt X.K):=by
 intro pins s σ H x y v u Q I rx ry h;obtain⟨d,e,hd,he,sd,se,q⟩:=h;obtain⟨as,r1⟩:=Dp.reads I d x v hd rx;obtain⟨bs,r2⟩:=Dp.reads I e y u he ry;exact SeqAt.compareNe_shaped r1 r2 sd se hu ⟨.bl _,H,I,rfl,q⟩
end
abbrev Ma(h:Heap)(c:Addr)(v:Option Value):Prop:=h.IsCell c v
def Vr(scope sc:Scope):Scope:=
 {scope with names:=scope.names.map λ(n,k)=>if(k== .free&&sc.kind== .function&&sc.names.lookup n==some .cell)then(n,.cell)else(n,k)}
def eK(cells:List (Str×Addr)):List (Str×NameKind)->List (Str×Addr)->List (Str×Addr)
 | [],acc=>acc
 |(n,k)::r,acc=>if k== .free then eK cells r ((n,(cells.lookup n).getD 0)::acc)else eK cells r acc
theorem uF(env:Env)(f:Str×NameKind->List (Str×Addr)->Sem (ForInStep (List (Str×Addr))))
  (hf:∀n k c,f (n,k) c=if k== .free then(do let a <-cellOf env n;pure (.yield ((n,a)::c)))else pure (.yield c)):
  ∀(names:List (Str×NameKind))(acc:List (Str×Addr)),(∀y∈names,y.2=.free->∃c,env.cells.lookup y.1=some c)->forIn names acc f=pure (eK env.cells names acc)
 | [],acc,_=>by rw[jY];rfl
 |(n,k)::r,acc,h=>by
  rw[ly,hf];have ih:=λacc=>uF env f hf r acc λy hy=>h y (ao _ hy)
  unfold eK
  by_cases hk:(k==NameKind.free)=true
  ·rw[az hk,az hk]
   obtain⟨c,hc⟩:=h (n,k) ax (by simpa using hk);have e:cellOf env n=pure c:=by unfold cellOf;rw[hc]
   rw[e];have e2:(env.cells.lookup n).getD 0=c:=by rw[hc];rfl
   rw[e2];exact ih _
  ·rw[aw hk,aw hk]
   exact ih _
theorem Gq{scope:Scope}{env:Env}(h:∀y∈scope.names,y.2=.free->∃c,env.cells.lookup y.1=some c):closureFor scope env=pure (eK env.cells scope.names []):=by
 simp only[closureFor];rw[uF env _ (λn k c=>rfl) scope.names [] h];rfl
theorem mem_lookup{α:Type}:∀{l:List (Str×α)}{n:Str}{c:α},(n,c)∈l->∃c',l.lookup n=some c'
 |(k,v)::r,n,c,h=>by
  rw[iK];cases hb:n==k with
  |true=>exact⟨_,rfl⟩
  |false=>
   rcases aB.mp h with e|h
   ·cases e;simp at hb
   ·exact mem_lookup h
theorem mn{cells:List (Str×Addr)}:∀{names:List (Str×NameKind)}{acc:List (Str×Addr)}{n:Str}{c:Addr},(n,c)∈eK cells names acc->(n,c)∈acc\/((n,.free)∈names/\c=(cells.lookup n).getD 0)
 | [],_,_,_,h=>.inl h
 |(m,k)::r,acc,n,c,h=>by
  unfold eK at h;split at h
  ·rename_i hk
   have hk:k=.free:=(by simpa using hk);rcases mn h with h|⟨h1,h2⟩
   ·rcases aB.mp h with e|h
    ·cases e;exact .inr ⟨hk▸ax,rfl⟩
    ·exact .inl h
   ·exact .inr ⟨ao _ h1,h2⟩
  ·rcases mn h with h|⟨h1,h2⟩
   ·exact .inl h
   ·exact .inr ⟨ao _ h1,h2⟩
theorem qb{cells:List (Str×Addr)}:∀{names:List (Str×NameKind)}{acc:List (Str×Addr)}{p:Str×Addr},p∈acc->p∈eK cells names acc
 | [],_,_,h=>h
 |(m,k)::r,acc,p,h=>by
  unfold eK;split
  ·exact qb (ao _ h)
  ·exact qb h
theorem qa{cells:List (Str×Addr)}:∀{names:List (Str×NameKind)}{acc:List (Str×Addr)}{n:Str},(n,.free)∈names->(n,(cells.lookup n).getD 0)∈eK cells names acc
 |(m,k)::r,acc,n,h=>by
  unfold eK;rcases aB.mp h with e|h
  ·cases e
   exact qb ax
  ·split
   ·exact qa h
   ·exact qa h
theorem m8:∀{names:List (Str×NameKind)}{h:Heap}{acc:List (Str×Addr)}{x:Str}{c:Addr},(x,c)∈cellsFrom h.objs.size names acc->
  (x,c)∈acc\/((x,.cell)∈names/\h.objs.size<=c/\Ma (pushCells h names) c none)
 | [],_,_,_,_,h=>.inl h
 |(n,k)::r,h,acc,x,c,hm=>by
  unfold cellsFrom at hm;unfold pushCells;split at hm
  ·rename_i hk
   rw[az hk];have hk:k=.cell:=by simpa using hk
   rw[<-bT h {cls:=.type "cell",data:=.cell none}]at hm;rcases m8 hm with hm|⟨h1,h2,h3⟩
   ·rcases aB.mp hm with e|hm
    ·cases e
     exact .inr ⟨hk▸ax,ay _,_,Fe r _ _ _ (aO _ rfl),rfl⟩
    ·exact .inl hm
   ·rw[bT]at h2
    exact .inr ⟨ao _ h1,uV h2,h3⟩
  ·rename_i hk
   rw[aw hk];rcases m8 hm with hm|⟨h1,h2,h3⟩
   ·exact .inl hm
   ·exact .inr ⟨ao _ h1,h2,h3⟩
theorem qz:∀{names:List (Str×NameKind)}{n:Nat}{acc:List (Str×Addr)}{p:Str×Addr},p∈acc->p∈cellsFrom n names acc
 | [],_,_,_,h=>h
 |(m,k)::r,n,acc,p,h=>by
  unfold cellsFrom;split
  ·exact qz (ao _ h)
  ·exact qz h
theorem vQ:∀{names:List (Str×NameKind)}{n:Nat}{acc:List (Str×Addr)}{x:Str},(x,.cell)∈names->∃c,(x,c)∈cellsFrom n names acc
 |(m,k)::r,n,acc,x,h=>by
  unfold cellsFrom;rcases aB.mp h with e|h
  ·cases e
   exact⟨n,qz ax⟩
  ·split
   ·exact vQ h
   ·exact vQ h
theorem vP:∀{names:List (Str×NameKind)}{h:Heap}{acc:List (Str×Addr)}{x y:Str}{c:Addr},(∀p∈acc,p.2<h.objs.size)->(∀x y c,(x,c)∈acc->(y,c)∈acc->x=y)->
  (x,c)∈cellsFrom h.objs.size names acc->(y,c)∈cellsFrom h.objs.size names acc->x=y
 | [],_,_,_,_,_,_,hi,h1,h2=>hi _ _ _ h1 h2
 |(n,k)::r,h,acc,x,y,c,hl,hi,h1,h2=>by
  unfold cellsFrom at h1 h2;split at h1
  ·rename_i hk
   rw[az hk]at h2;rw[<-bT h {cls:=.type "cell",data:=.cell none}]at h1 h2;refine vP (h:=h.push _) (λp hp=>?_) (λx y c a b=>?_) h1 h2
   ·rw[bT]
    rcases aB.mp hp with rfl|hp
    ·exact iI _
    ·exact fc (hl p hp)
   ·rcases aB.mp a with e|a<;>rcases aB.mp b with e'|b
    ·cases e;cases e';rfl
    ·cases e;exact absurd (hl _ b) (dJ _)
    ·cases e';exact absurd (hl _ a) (dJ _)
    ·exact hi _ _ _ a b
  ·rename_i hk
   rw[aw hk]at h2;exact vP hl hi h1 h2
theorem D4{M:Model}{A:Around}{E:fw}{s:Shared}{scope:Scope}{globals:Addr}{closure:List (Str×Addr)}{qual:Str}{func:Option Addr}{code:Value}{around:Env}{builtins:Addr}{Q:Env->Shared->Prop}
  (h:Q (newEnv scope s.heap.objs.size globals (cellsFrom (s.heap.objs.size+1) scope.names closure) qual func code (some around) builtins)
   {s with heap:=pushCells (s.heap.push {cls:=.type "dict",data:=.dict #[]}) scope.names}):
  wpAny M A (newFunctionEnv scope globals closure [] qual func code (some around) builtins) Q E s:=by
 simp only[newFunctionEnv,Option.isSome_some,dD];refine aa (wpAny_alloc ?_);refine aa (wpAny_layCells _ (λn k c=>rfl) scope.names closure _ _ ?_);rw[show({s with heap:=s.heap.push {cls:=.type "dict",data:=.dict #[]}}:Shared).heap.objs.size=s.heap.objs.size+1 from bT ..]
 rw[jY];exact aa (aj (aj h))
theorem pQ{sc:Scope}:∀{names:List (Str×NameKind)}{x:Str}{k:NameKind},
  (names.map λ(n,k)=>if(k==NameKind.free&&sc.kind== .function&&sc.names.lookup n==some .cell)then(n,NameKind.cell)else(n,k)).lookup x=some k->
  ∃k',names.lookup x=some k'/\(k=k'\/(k'=.free/\k=.cell))
 | [],_,_,h=>by simp at h
 |(n,KY)::r,x,k,h=>by
  have ih:=@pQ sc r x k;have h':List.lookup x ((if(KY==NameKind.free&&sc.kind== .function&&sc.names.lookup n==some .cell)=true then(n,NameKind.cell)else(n,KY))::(r.map _))=some k:=h;cases hx:x==n with
  |true=>
   simp only[iK,hx]
   by_cases hc:(KY==NameKind.free&&sc.kind== .function&&sc.names.lookup n==some .cell)=true
   ·rw[az hc]at h'
    simp only[iK,hx]at h';cases h';simp only[a6,fb]at hc;exact⟨KY,rfl,.inr ⟨hc.1.1,rfl⟩⟩
   ·rw[aw hc]at h'
    simp only[iK,hx]at h';cases h';exact⟨_,rfl,.inl rfl⟩
  |false=>
   simp only[iK,hx]
   by_cases hc:(KY==NameKind.free&&sc.kind== .function&&sc.names.lookup n==some .cell)=true
   ·rw[az hc]at h'
    simp only[iK,hx]at h';exact ih h'
   ·rw[aw hc]at h'
    simp only[iK,hx]at h';exact ih h'
structure EY(N:List Str)(sc scope:Scope)(own:List (Str×Nat)):Prop where
 kind:scope.kind=.function
 uniq:∀y∈scope.names,scope.names.lookup y.1=some y.2
 ix:∀p∈own,N[p.2]?=some p.1
 free:∀y∈scope.names,y.2=.free->sc.names.lookup y.1=some .cell\/sc.names.lookup y.1=some .free
 own:∀y∈scope.names,y.2=.local\/y.2=.cell->y.1∈own.map (·.1)\/y.1∉N
def wipe(σ:St):List Nat->St
 | []=>σ
 |v::vs=>(wipe σ vs).set v none
theorem oY(σ:St):∀vs:List Nat,(wipe σ vs).length=σ.length
 | []=>rfl
 |v::vs=>by unfold wipe;rw[List.length_set,oY σ vs]
theorem uW{σ:St}{i:Nat}{x:V}:∀{vs:List Nat},(wipe σ vs)[i]?=some (some x)->σ[i]?=some (some x)/\i∉vs
 | [],h=>⟨h,by simp⟩
 |v::vs,h=>by
  unfold wipe at h
  by_cases hi:v=i
  ·subst hi
   by_cases hv:v<(wipe σ vs).length
   ·rw[zK hv]at h;cases h
   ·rw[jF (by simpa using hv)]at h;cases h
  ·rw[C5 hi]at h
   obtain⟨h1,h2⟩:=uW h;exact⟨h1,by simp only[aB,not_or];exact⟨λe=>hi e.symm,h2⟩⟩
abbrev Cx.CP(X:Cx)(s:Shared)(H:Hp)(scope:Scope)(jc:Env)(fp:List Addr):Cx:={X with AZ:=s,Rq:=H,env:=jc,outer:=X.stack,ex:=fp,fn:=λx=>scope.names.lookup x==some .cell,pn:=[],xe:=λ_ _=>False}
section
variable{X:Cx}{pins:List (Addr×Obj)}{σ:St}{H:Hp}{s:Shared}
theorem ES{scope:Scope}{own:List (Str×Nat)}{fp:List Addr}(I:Inv X pins σ H s)(ok:EY X.N X.env.scope scope own)(hN:X.N.Nodup)(RH:∀b∈fp,xh X pins H b/\b<s.heap.objs.size):
  Inv (X.CP s H scope (compEnvC scope (cellsFrom (s.heap.objs.size+1) scope.names (eK X.env.cells scope.names [])) s.heap.objs.size X.env) fp) [] (wipe σ (own.map (·.2))) H {s with heap:=pushCells (s.heap.push {cls:=.type "dict",data:=.dict #[]}) scope.names}:=by
 have pZ:∀y∈scope.names,y.2=.free->∃c,X.env.cells.lookup y.1=some c:=λy hy e=>by
  rcases ok.free y hy e with k|k
  ·exact I.ok.has _ (.inl k)
  ·exact I.ok.has _ (.inr k)
 generalize Eu:compEnvC scope (cellsFrom (s.heap.objs.size+1) scope.names (eK X.env.cells scope.names [])) s.heap.objs.size X.env=jc;have kp:∀b o,s.heap.get? b=some o->(pushCells (s.heap.push {cls:=.type "dict",data:=.dict #[]}) scope.names).get? b=some o:=λb o e=>Fe _ _ _ _ (ak _ e)
 have hL:jc.locals=s.heap.objs.size:=by rw[<-Eu];rfl
 have F9:jc.cells=cellsFrom (s.heap.objs.size+1) scope.names (eK X.env.cells scope.names []):=by rw[<-Eu];rfl
 have Wb:jc.scope=Vr scope X.env.scope:=by rw[<-Eu];rfl
 rw[<-bT s.heap {cls:=.type "dict",data:=.dict #[]}]at F9;have cm:∀{y c},(y,c)∈eK X.env.cells scope.names []->X.env.cells.lookup y=some c/\c<s.heap.objs.size:=λ{y c}hm=>by
  rcases mn hm with hm|⟨h1,rfl⟩
  ·cases hm
  ·obtain⟨c,hc⟩:=pZ _ h1 rfl
   rw[hc];obtain⟨w,z⟩:=I.cell _ _ hc;exact⟨rfl,z.lt⟩
 have mem:∀{y c},jc.cells.lookup y=some c->(X.env.cells.lookup y=some c/\c<s.heap.objs.size)\/(s.heap.objs.size+1<=c/\Ma (pushCells (s.heap.push {cls:=.type "dict",data:=.dict #[]}) scope.names) c none):=λ{y c}e=>by
  rw[F9]at e;rcases m8 (cb e)with hm|⟨_,h2,h3⟩
  ·exact .inl (cm hm)
  ·rw[bT]at h2;exact .inr ⟨h2,h3⟩
 have look:∀{y},scope.names.lookup y=some .free->∃c,jc.cells.lookup y=some c/\X.env.cells.lookup y=some c:=λ{y}hl=>by
  have hy:(y,NameKind.free)∈scope.names:=cb hl;obtain⟨c',e'⟩:=mem_lookup (qz (names:=scope.names) (n:=(s.heap.push {cls:=.type "dict",data:=.dict #[]}).objs.size) (qa (cells:=X.env.cells) (acc:=[]) hy))
  rw[<-F9]at e';refine⟨c',e',?_⟩;rw[F9]at e';rcases m8 (cb e')with hm|⟨h1,_,_⟩
  ·exact(cm hm).1
  ·have:=ok.uniq _ h1
   rw[hl]at this;cases this
 have okB:(X.CP s H scope jc fp).Ok:=by
  refine⟨I.ok.mod,by show jc.scope.kind=_;rw[Wb];exact ok.kind,by show jc.globals=_;rw[<-Eu];exact I.ok.glob,by show jc.builtins=_;rw[<-Eu];exact I.ok.blt,by show s.heap.objs.size<=jc.locals;rw[hL];exact ay _,
   λy z c e1 e2=>?_,λy hy=>?_,λy c z e=>?_,I.ok.hd,I.ok.frames,.inl rfl,λb hb=>⟨?_,λy c e z=>?_⟩,I.bs,bf I.ok.LU I.sz,λb o e hb=>?_,λb hb z=>?_,I.stack,I.GQ⟩
  ·have e1:jc.cells.lookup y=some c:=e1
   have e2:jc.cells.lookup z=some c:=e2;rw[F9]at e1 e2;refine vP (λp hp=>?_) (λy z c a b=>I.ok.inj y z c (cm a).1 (cm b).1) (cb e1) (cb e2)
   rw[bT];exact fc (cm (y:=p.1) (c:=p.2) hp).2
  ·show∃c,jc.cells.lookup y=some c
   have key:∀k,jc.kindOf y=some k->(k=.cell\/k=.free)->∃c,jc.cells.lookup y=some c:=λk hk F6=>by
    unfold Env.kindOf at hk;rw[Wb]at hk;obtain⟨k',e,r⟩:=pQ hk;have:k'=.cell\/k'=.free:=by
     rcases r with rfl|⟨rfl,_⟩
     ·exact F6
     ·exact .inr rfl
    rcases this with rfl|rfl
    ·obtain⟨c,hm⟩:=vQ (n:=(s.heap.push {cls:=.type "dict",data:=.dict #[]}).objs.size) (acc:=eK X.env.cells scope.names []) (cb e)
     obtain⟨c',e'⟩:=mem_lookup hm;exact⟨c',by rw[F9];exact e'⟩
    ·obtain⟨c,h1,_⟩:=look e
     exact⟨c,h1⟩
   rcases hy with hy|hy
   ·exact key _ hy (.inl rfl)
   ·exact key _ hy (.inr rfl)
  ·have z:(scope.names.lookup y==some NameKind.cell)=true:=z
   have z:scope.names.lookup y=some .cell:=(by simpa using z);have e:jc.cells.lookup y=some c:=e;rw[F9]at e;rcases m8 (cb e)with hm|⟨_,h2,_⟩
   ·rcases mn hm with hm|⟨h1,_⟩
    ·cases hm
    ·have q:=ok.uniq _ h1
     rw[z]at q;cases q
   ·rw[bT]at h2
    exact uV h2
  ·show b≠jc.locals
   rw[hL];exact a0 (RH b hb).2
  ·have e:jc.cells.lookup y=some c:=e
   rcases mem e with⟨h1,_⟩|⟨h1,_⟩
   ·exact(RH b hb).1.2.2.2.2.1 y c h1 z
   ·have h2:s.heap.objs.size+1<=b:=by rw[<-z];exact h1
    exact absurd (bA (RH b hb).2 (uV h2)) (dJ _)
  ·rcases(RH b hb).1.2.2.2.1 with z|z
   ·exact I.ok.KI b o e z
   ·exact absurd (bA (aM e) (bf I.ok.LU z)) (dJ _)
  ·rcases aB.mp (I.Fu b z)with z|z
   ·exact(RH b hb).1.2.1 z
   ·exact(RH b hb).1.2.2.1 z
 refine⟨okB,rfl,I.bare,Un.kept kp,⟨λ_=>none,?_,λi y av e1 e2 e3=>?_⟩,λy c e=>?_,?_,λy c e=>?_,λp hp=>?_,I.dy.kept kp,by rw[oY];exact I.len⟩
 ·show Heap.Ns _ jc.locals _
  rw[hL];exact Heap.Ns.keeps (Heap.Ns.new ..) λb o e=>Fe _ _ _ _ e
 ·obtain⟨e2,vE⟩:=uW e2
  have UO:scope.names.lookup y=some .free/\(jc.kindOf y=some .cell\/jc.kindOf y=some .free):=by
   have key:∀k,jc.scope.names.lookup y=some k->k=.local\/k=.cell\/k=.free->scope.names.lookup y=some .free/\(jc.kindOf y=some .cell\/jc.kindOf y=some .free):=λk hk F6=>by
    have WC:=hk;rw[Wb]at hk;obtain⟨k',e,r⟩:=pQ hk;have no:¬(k'=.local\/k'=.cell):=λhh=>by
     rcases ok.own _ (cb e) hh with e'|e'
     ·obtain⟨p,hp,hpy⟩:=aV.mp e'
      have e3:=ok.ix p hp;have:p.1=y:=hpy;rw[this]at e3;exact vE (aV.mpr ⟨p,hp,yC hN e3 e1⟩)
     ·exact e' (aY e1)
    rcases r with rfl|⟨rfl,rfl⟩
    ·rcases F6 with rfl|rfl|rfl
     ·exact absurd (.inl rfl) no
     ·exact absurd (.inr rfl) no
     ·exact⟨e,.inr WC⟩
    ·exact⟨e,.inl WC⟩
   have e3:Rm jc.scope y:=e3;rcases e3 with e3|e3|e3
   ·exact key _ e3 (.inl rfl)
   ·exact key _ e3 (.inr (.inl rfl))
   ·exact key _ e3 (.inr (.inr rfl))
  obtain⟨m,hn,hl⟩:=I.loc;have V7:Rm X.env.scope y:=(ok.free _ (cb UO.1) rfl).elim (λk=>.inr (.inl k)) (λk=>.inr (.inr k))
  obtain⟨w,r,q⟩:=hl i y av e1 e2 V7;refine⟨w,r,.inr ⟨UO.2,?_⟩⟩;obtain⟨c,h1,h2⟩:=look UO.1;rcases q with⟨k,_⟩|⟨_,c',e',z⟩
  ·have k:X.env.scope.names.lookup y=some .local:=k
   rcases ok.free _ (cb UO.1) rfl with k'|k'<;>rw[show X.env.scope.names.lookup y=_ from k']at k<;>cases k
  ·rw[h2]at e';cases e'
   exact⟨c,h1,z.keeps kp⟩
 ·have e:jc.cells.lookup y=some c:=e
  rcases mem e with⟨h1,_⟩|⟨_,z⟩
  ·obtain⟨w,z⟩:=I.cell y c h1
   exact⟨w,z.keeps kp⟩
  ·exact⟨_,z⟩
 ·show H jc.locals=none
  rw[hL];exact I.dy.fresh (ay _)
 ·have e:jc.cells.lookup y=some c:=e
  rcases mem e with⟨h1,_⟩|⟨h1,_⟩
  ·exact I.m6 y c h1
  ·exact I.dy.fresh (uV h1)
 ·exact absurd (show p∈([]:List (Addr×Obj))++ []from hp) (by simp)
theorem Ri{E:fw}{D:Addr}{xs:List V}{y:V}{v:Value}{Q:fw}(I:Inv X pins σ H s)(hD:H D=some (.lst xs))(hz:xs.length<sizeLine)(r:RelV y v)
  (h:∀s',Inv X pins σ (upd H D (.lst (xs++ [y]))) s'->Q .none s'):wpAny (model X.prog X.w) X.A (call (.builtin "list.append") [.ref D,v]) Q E s:=by
 obtain⟨hz',bU,n,ri,e⟩:=I.dy D _ hD;have hl:=ri.length;refine append_at (hsz:=by rw[aU];omega) e λh' sb qM=>?_
 refine h {s with heap:=h'} (I.write (t':=s.toks) (by rw[hD];trivial) (.inl rfl) (λb u hb q=>(sb.2 b hb).trans q) ⟨_,qM⟩ ⟨by rw[aA];exact hz,bU++ [v],n+1,ri.append (.cons r .nil),?_⟩)
 rw[qM];simp
def Ua(X:Cx)(ifs:List Expr)(t:TT):Prop:=
 ∀(pins:List (Addr×Obj))(s:Shared)(σ:St)(H:Hp)(Q:Bool->Hp->Prop),Inv X pins σ H s->t σ H Q->
  wpAny (model X.prog X.w) X.A (forIn ifs true λc r=>if r=true then do let ok <-isTrue c X.env (eval c X.env);pure (ForInStep.yield ok)else pure (ForInStep.yield r)) (TP X pins σ Q) X.xe s
def JW:TT:=λ_ H Q=>Q true H
theorem jn:Ua X [] JW:=λ_ _ _ H _ I h=>wpAny_tests_nil ⟨H,I,h⟩
theorem xw{c:Expr}{t:TT}(h:PT X c t):Ua X [c] t:=λpins s σ H Q I hw=>wpAny_tests_one (h pins s σ H Q I hw)
end
theorem HN{α:Type}{t:Sem α}{Q Q':α->Shared->Prop}{M:Model}{A:Around}{E:fw}{s:Shared}(h:wpAny M A t Q (λ_ _=>False) s)(hQ:∀a s,Q a s->Q' a s):wpAny M A t Q' E s:=eT h hQ λ_ _ z=>False.elim z
theorem CH{prog:Program}{w:World}{A:Around}{R:Result->Shared->Prop}{s:Shared}{elt target iter:Expr}{ifs:List Expr}{scope:Scope}{pos:Pos}{it acc:Value}{env:Env}(I:Nat->Shared->Prop)
  (turn:∀n s,I n s->wpAny (model prog w) A (pyNext it) (λr cY=>match r with
   |none=>R (.ok .next) cY
   |some v=>wpAny (model prog w) A (letOwnedTupleGo target it v) (λ_ Oh=>wpAny (model prog w) A (assign target env v) (λ_ kC=>
     wpAny (model prog w) A (forIn ifs true λc r=>if r=true then do let ok <-isTrue c env (eval c env);pure (ForInStep.yield ok)else pure (ForInStep.yield r)) (λok Dr=>
      if ok=true then wpAny (model prog w) A (eval elt env) (λx Sf=>
       wpAny (model prog w) A (call (.builtin "list.append") [acc,x]) (λ_ Se=>∃m,m<n/\I m Se) (notedBy (model prog w) A env λe s'=>R (.error e) s') Sf) (notedBy (model prog w) A env λe s'=>R (.error e) s') Dr
      else∃m,m<n/\I m Dr) (notedBy (model prog w) A env λe s'=>R (.error e) s') kC) (notedBy (model prog w) A env λe s'=>R (.error e) s') Oh) (notedBy (model prog w) A env λe s'=>R (.error e) s') cY) (notedBy (model prog w) A env λe s'=>R (.error e) s') s)
  (n:Nat)(h:I n s):
  codeAny (model prog w) A (.compLoop (.ListComp elt [⟨target,iter,ifs,0⟩] scope pos) 0 it acc env) R s:=by
 refine codeAny_loop rfl I (λn s hI=>?_) n h;show wpAny _ A ((compTurn (.ListComp elt [⟨target,iter,ifs,0⟩] scope pos) 0 it acc env).onRaise (λx=>do noteFrame x env;theTreesLotGoes x)) _ _ s
 refine wpAny_noted ?_;rw[compTurn_list];refine aa (wpAny_standAt (aa (eT (turn n s hI) (λr cY h₁=>?_) λ_ _ h'=>h')));cases r with
 |none=>exact aj h₁
 |some v=>
  refine aa (eT h₁ (λ_ Oh S8=>?_) λ_ _ h'=>h');refine aa (eT S8 (λ_ kC K3=>aa (eT K3 (λok Dr NC=>?_) λ_ _ h'=>h')) λ_ _ h'=>h');cases ok with
  |false=>exact aj ⟨rfl,NC⟩
  |true=>
   exact aa (aa (eT NC (λx Sf V4=>aa (eT V4 (λ_ Se V3=>aj (aj ⟨rfl,V3⟩)) λ_ _ h'=>h')) λ_ _ h'=>h'))
section
variable{X:Cx}
def Uk(wi:TI)(g:TG)(tt:TT)(te:TE)(vs:List Nat):TE:=λσ H Q=>wi σ H λJ H1=>∀D,H1 D=none->∃W:Nat->Nat->Hp->Prop,(∃m,W 0 m (upd H1 D (.lst [])))/\∀i m H,W i m H->
 (J.stop i H/\Q (.ref D) H)\/(J.go i H/\∃Nx:Hp->Prop,(∀H',Nx H'->∃m',m'<m/\W (i+1) m' H')/\∀x H',J.Fm i H x H'->g x (wipe σ vs) H' λmr H2=>wipe mr vs=wipe σ vs/\tt mr H2 λb H3=>
  if b=true then te mr H3 λy H4=>∃acc,H4 D=some (.lst acc)/\acc.length<sizeLine/\Nx (upd H4 D (.lst (acc++ [y])))else Nx H3)
theorem Hd{pins:List (Addr×Obj)}{s:Shared}{σ:St}{H:Hp}{Q:VK}{elt tg iter:Expr}{ifs:List Expr}{scope:Scope}{own:List (Str×Nat)}{pos pos':Pos}{wi:TI}{g:TG}{tt:TT}{te:TE}{use:Option (Value->Sem Unit)}{Qf:fw}
  (hc:X.calm=true)(hN:X.N.Nodup)(I:Inv X pins σ H s)(hi:PI X tg iter wi)(ok:EY X.N X.env.scope scope own)
  (hg:∀(s:Shared)(H:Hp)(C:Addr)(cl:List (Str×Addr))(fp:List Addr),PG (X.CP s H scope (compEnvC scope cl C X.env) fp) tg g)(ht:∀(s:Shared)(H:Hp)(C:Addr)(cl:List (Str×Addr))(fp:List Addr),Ua (X.CP s H scope (compEnvC scope cl C X.env) fp) ifs tt)
  (he:∀(s:Shared)(H:Hp)(C:Addr)(cl:List (Str×Addr))(fp:List Addr),PE (X.CP s H scope (compEnvC scope cl C X.env) fp) elt te)(hs:∀x,foldedSetIterable iter X.env x=pure x)
  (h:Uk wi g tt te (own.map (·.2)) σ H Q)
  (hRR:∀D C s' m H',Inv X pins σ H' s'->Q (.ref D) H'->s'.heap.Ns C m->xh X pins H' C->compPost (model X.prog X.w) X.A X.xe use Qf (.ref D) C (.ok .next) s'):
  wpAny (model X.prog X.w) X.A (comprehension (.ListComp elt [⟨tg,iter,ifs,0⟩] scope pos) scope X.env pos' (newList []) false (eval iter X.env) use) Qf X.xe s:=by
 have pZ:∀y∈scope.names,y.2=.free->∃c,X.env.cells.lookup y.1=some c:=λy hy e=>by
  rcases ok.free y hy e with k|k
  ·exact I.ok.has _ (.inl k)
  ·exact I.ok.has _ (.inr k)
 refine wpAny_comprehension_free (use:=use) rfl hs (Gq pZ) ok.kind (λy hy e=>by rw[ok.uniq y hy,e])
  (eO (hi pins s σ H _ I h) λxv s1 hx=>eO hx λVX s2 h2=>?_)
 obtain⟨it,fp,tn,J,H2,e,I2,T,Up,f2,q⟩:=h2;subst e;refine gy (D4 ?_) (by show 0<=sizeLine;decide);generalize hD:s2.heap.objs.size=D;have hDn:H2 D=none:=I2.dy.fresh (qO hD);obtain⟨W,⟨m0,w0⟩,turn⟩:=q D hDn;generalize hs3:({s2 with heap:=s2.heap.push {cls:=.type "list",data:=.seq ([]:List Value).toArray}}:Shared)=s3
 have I3:Inv X pins σ (upd H2 D (.lst [])) s3:=by
  rw[<-hs3];refine I2.laid (t':=s2.toks) (λb o e=>ak _ e) (qO hD) ⟨bp _,[],0,.nil,?_⟩;rw[<-hD];exact aO _ rfl
 have h3:s3.heap=s2.heap.push {cls:=.type "list",data:=.seq ([]:List Value).toArray}:=by rw[<-hs3]
 have sz:∀b∈fp,b<s2.heap.objs.size:=λb hb=>by
  obtain⟨o,e,_⟩:=T.obj _ _ Up b hb;exact aM e
 have f3:∀b∈fp,xh X pins (upd H2 D (.lst [])) b/\b<s3.heap.objs.size:=λb hb=>by
  have lT:=sz b hb;refine⟨⟨?_,(f2 b hb).2⟩,by rw[h3,bT];exact fc lT⟩
  rw[aG (by rw[<-hD];exact a0 lT)];exact(f2 b hb).1
 have Uo:tn 0 s3.heap:=T.keep _ _ _ Up λb _ o e=>by rw[h3];exact ak _ e
 have I4:=ES I3 ok hN f3;have pg:=hg s3 (upd H2 D (.lst [])) s3.heap.objs.size (cellsFrom (s3.heap.objs.size+1) scope.names (eK X.env.cells scope.names [])) fp;have pt:=ht s3 (upd H2 D (.lst [])) s3.heap.objs.size (cellsFrom (s3.heap.objs.size+1) scope.names (eK X.env.cells scope.names [])) fp;have pe:=he s3 (upd H2 D (.lst [])) s3.heap.objs.size (cellsFrom (s3.heap.objs.size+1) scope.names (eK X.env.cells scope.names [])) fp;show codeAny _ _ (.compStart (.ListComp elt [⟨tg,iter,ifs,0⟩] scope pos) 0 (.ref it) (.ref D) (compEnvC scope (cellsFrom (s3.heap.objs.size+1) scope.names (eK X.env.cells scope.names [])) s3.heap.objs.size X.env)) (compPost (model X.prog X.w) X.A X.xe use Qf (.ref D) s3.heap.objs.size) {s3 with heap:=pushCells (s3.heap.push {cls:=.type "dict",data:=.dict #[]}) scope.names};have nfp:∀b∈fp,(upd H2 D (.lst [])) b=none:=λb hb=>(f3 b hb).1.1
 generalize hce:compEnvC scope (cellsFrom (s3.heap.objs.size+1) scope.names (eK X.env.cells scope.names [])) s3.heap.objs.size X.env=ce at I4 pg pt pe⊢;have cL:ce.locals=s3.heap.objs.size:=by subst hce;rfl
 generalize US:upd H2 D (.lst [])=H3 at I3 I4 pg pt pe w0 nfp f3;generalize hs4:({s3 with heap:=pushCells (s3.heap.push {cls:=.type "dict",data:=.dict #[]}) scope.names}:Shared)=s4 at I4⊢;have st4:tn 0 s4.heap:=T.keep _ _ _ Uo λb _ o e=>by rw[<-hs4];exact Fe _ _ _ _ (ak _ e)
 have stat:∀{gO:St}{H':Hp}{s':Shared},Inv (X.CP s3 H3 scope ce fp) [] gO H' s'->(∀b∈fp,H' b=none)->∀b∈fp,xh (X.CP s3 H3 scope ce fp) [] H' b:=λ{gO H' s'}I' hn b hb=>
  ⟨hn b hb,(I'.ok.UU b hb).1,I'.ok.Lv b hb,.inl hb,λx c e=>(I'.ok.UU b hb).2 x c e,λp hp=>absurd (show p∈([]:List (Addr×Obj))++ []from hp) (by simp)⟩
 have loop:codeAny (model X.prog X.w) X.A (.compLoop (.ListComp elt [⟨tg,iter,ifs,0⟩] scope pos) 0 (.ref it) (.ref D) ce) (compPost (model X.prog X.w) X.A X.xe use Qf (.ref D) s3.heap.objs.size) s4:=by
  refine CH (λn s'=>∃i H',Inv (X.CP s3 H3 scope ce fp) [] (wipe σ (own.map (·.2))) H' s'/\tn i s'.heap/\(∀b∈fp,H' b=none)/\W i n H') ?_ m0 ⟨0,H3,I4,st4,nfp,w0⟩;rintro n s5 ⟨i,H5,I5,Rx,n5,w5⟩;rcases turn i n H5 w5 with⟨stop,qq⟩|⟨go,Nx,hNx,step⟩
  ·have td:=T.done (X.CP s3 H3 scope ce fp) rfl rfl rfl hc i [] s5 _ H5 (λ_ _=>False) I5 (stat I5 n5) Rx stop
   refine HN td λr s6⟨hr,I6⟩=>?_
   subst hr;have I7:Inv X pins σ H5 s6:=I3.T5 (ch:=fp) I6.os I6.base I6.dy I6.bare λb hb=>⟨(f3 b hb).1.2.2.2.1,(f3 b hb).1.2.1,(f3 b hb).1.2.2.2.2.1,(f3 b hb).1.2.2.2.2.2⟩
   have nC:H5 s3.heap.objs.size=none:=by
    have z:H5 ce.locals=none:=I6.free;rw[cL]at z;exact z
   obtain⟨m,hn,_⟩:=I6.loc;have hn:s6.heap.Ns ce.locals m:=hn;rw[cL]at hn;exact hRR D s3.heap.objs.size s6 m H5 I7 qq hn (I3.Gi (ay _) nC)
  ·have ti:=T.item (X.CP s3 H3 scope ce fp) rfl rfl rfl hc i [] s5 _ H5 (λ_ _=>False) I5 (stat I5 n5) Rx go
   refine HN ti λr s6⟨u,hr,h6⟩=>?_
   subst hr;refine HN h6 λ_ s7⟨x,H7,I7,r7,y7,Vm,n7⟩=>?_
   have I7':=I7.pinned (stat I7 n7) (T.obj _ _ Vm);refine HN (pg _ s7 _ H7 x u _ I7' r7 (step x H7 y7)) λ_ s8⟨Ug,H8,I8,hw8,q8⟩=>?_
   refine HN (pt _ s8 Ug H8 _ I8 q8) λb s9⟨H9,I9,q9⟩=>?_
   have fin:∀{s':Shared}{H':Hp},Inv (X.CP s3 H3 scope ce fp) ([]++yp fp s7.heap) Ug H' s'->Nx H'->∃m,m<n/\∃i H',Inv (X.CP s3 H3 scope ce fp) [] (wipe σ (own.map (·.2))) H' s'/\tn i s'.heap/\(∀b∈fp,H' b=none)/\W i m H':=λ{s' H'}I' nx=>by
    obtain⟨m',hm,w'⟩:=hNx H' nx;have SF:∀b∈fp,∀o,s7.heap.get? b=some o->s'.heap.get? b=some o/\H' b=none:=λb hb o e=>
     let z:=I'.pin (b,o) (cB _ (cB _ (sD hb e)))
     ⟨z.1,z.2.1⟩
    have hl:(wipe σ (own.map (·.2))).length=Ug.length:=by rw[<-hw8,oY]
    refine⟨m',hm,i+1,H',(I'.tG (pins:=[])).weak hl (λj v e=>?_),T.keep _ _ _ Vm λb hb o e=>(SF b hb o e).1,λb hb=>?_,w'⟩
    ·rw[<-hw8]at e
     exact(uW e).1
    ·obtain⟨o,e,_⟩:=T.obj _ _ Vm b hb
     exact(SF b hb o e).2
   cases b with
   |false=>
    simp only[aX,cE]at q9⊢;exact fin I9 q9
   |true=>
    simp only[dD]at q9⊢;refine HN (pe _ s9 Ug H9 _ I9 q9) λz Rz⟨yv,H10,I10,r10,acc,W3,V5,nx⟩=>?_
    exact Ri (X:=X.CP s3 H3 scope ce fp) I10 W3 V5 r10 λRy I11=>fin I11 nx
 exact codeAny_compStart_list loop (T.self X.A 0 _ _ _ st4 loop)
theorem oK{elt tg iter:Expr}{ifs:List Expr}{scope:Scope}{own:List (Str×Nat)}{pos:Pos}{wi:TI}{g:TG}{tt:TT}{te:TE}(hc:X.calm=true)(hN:X.N.Nodup)(hi:PI X tg iter wi)(ok:EY X.N X.env.scope scope own)
  (hg:∀(s:Shared)(H:Hp)(C:Addr)(cl:List (Str×Addr))(fp:List Addr),PG (X.CP s H scope (compEnvC scope cl C X.env) fp) tg g)(ht:∀(s:Shared)(H:Hp)(C:Addr)(cl:List (Str×Addr))(fp:List Addr),Ua (X.CP s H scope (compEnvC scope cl C X.env) fp) ifs tt)
  (he:∀(s:Shared)(H:Hp)(C:Addr)(cl:List (Str×Addr))(fp:List Addr),PE (X.CP s H scope (compEnvC scope cl C X.env) fp) elt te)(hs:∀x,foldedSetIterable iter X.env x=pure x:=by intro _;rfl):
  PE X (.ListComp elt [⟨tg,iter,ifs,0⟩] scope pos) (Uk wi g tt te (own.map (·.2))):=by
 intro pins s σ H Q I h;rw[eval_ListComp];refine Hd hc hN I hi ok hg ht he hs h λD C s' m H' I' q hn f=>⟨m,hn,λON sb=>?_⟩
 obtain⟨f0,f1,f2,f3,f4,f5⟩:=f;exact⟨.ref D,H',I'.turned (t':=s'.toks) (λb o hb e=>(sb.2 b hb).trans e) f0 f1 f3 f4 f5,rfl,q⟩
theorem yn{i:Nat}{y:Str}{py:Pos}{elt tg iter:Expr}{ifs:List Expr}{scope:Scope}{own:List (Str×Nat)}{pos Sg:Pos}{wi:TI}{g:TG}{tt:TT}{te:TE}(hc:X.calm=true)(hN:X.N.Nodup)(hy:X.N[i]?=some y)(hyl:X.env.scope.names.lookup y=some .local)
  (hsw:swapsWith (.ListComp elt [⟨tg,iter,ifs,0⟩] scope pos) (some (.Name y py)) Sg.line X.env=pure true)(hi:PI X tg iter wi)(ok:EY X.N X.env.scope scope own)
  (hg:∀(s:Shared)(H:Hp)(C:Addr)(cl:List (Str×Addr))(fp:List Addr),PG (X.CP s H scope (compEnvC scope cl C X.env) fp) tg g)(ht:∀(s:Shared)(H:Hp)(C:Addr)(cl:List (Str×Addr))(fp:List Addr),Ua (X.CP s H scope (compEnvC scope cl C X.env) fp) ifs tt)
  (he:∀(s:Shared)(H:Hp)(C:Addr)(cl:List (Str×Addr))(fp:List Addr),PE (X.CP s H scope (compEnvC scope cl C X.env) fp) elt te)(hs:∀x,foldedSetIterable iter X.env x=pure x:=by intro _;rfl):
  PS X (.Assign [.Name y py] (.ListComp elt [⟨tg,iter,ifs,0⟩] scope pos) Sg) (Pq (Uk wi g tt te (own.map (·.2))) (m5 i)):=by
 intro pins s σ H D I h;rw[exec_Assign_Name_used _ _ _ _ hsw];refine aa (wpAny_standAt (aa ?_));show wpAny _ X.A (do let _ <-comprehension (.ListComp elt [⟨tg,iter,ifs,0⟩] scope pos) scope X.env (firstIterPos [⟨tg,iter,ifs,0⟩] pos) (newList []) false (eval iter X.env) (some (assign (.Name y py) X.env))) _ _ s;have h:Uk wi g tt te (own.map (·.2)) σ H (λx H1=>m5 i x σ H1 D.nx):=h;refine aa (eO (Hd (Qf:=λ_ s'=>SP X pins D .next s') hc hN I hi ok hg ht he hs h λL C s' m H' I' q hn f=>?_) λ_ s' hq=>aj (aj hq));show wpAny _ _ (assign (.Name y py) X.env (.ref L)) _ _ _;refine wpAny_assign_Name (AN (v:=V.ref L) I' hN hy (.inl hyl) rfl (λs2 I2⟨a,sb,ha⟩=>?_) (.inr hyl));obtain⟨f0,f1,f2,f3,f4,f5⟩:=f;have haC:C≠a:=by
  rcases ha with z|z
  ·rw[z];exact f1
  ·exact λe=>f4 y a z e.symm
 refine⟨m,hn.sameBut sb haC,λh3 sb3=>?_⟩;exact⟨_,H',I2.turned (t':=s2.toks) (λb o hb e=>(sb3.2 b hb).trans e) f0 f1 f3 f4 f5,q⟩
theorem Bx{elt:Expr}{gs:List Comprehension}{scope:Scope}{pos py:Pos}{y:Str}{l:Nat}{env:Env}(hk:env.scope.kind=.function)(hy:env.scope.names.lookup y=some .local)(hl:(py.line==pos.line)=true)
  (ha:(scope.names.any λ(n,k)=>n==y&&(k== .local||k== .cell))=false):swapsWith (.ListComp elt gs scope pos) (some (.Name y py)) l env=pure true:=by
 have ky:env.kindOf y=some .local:=hy;have hb:env.blockKind=.function:=by unfold Env.blockKind;rw[hk];rfl
 unfold swapsWith;simp only[hb,ky,ha,Expr.pos,hl];rfl
end
def T7(N:List Str)(sc scope:Scope)(own:List (Str×Nat)):Bool:=
 (match scope.kind with| .function=>true|_=>false)&&(scope.names.all λy=>decide (scope.names.lookup y.1=some y.2))&&(own.all λp=>decide (N[p.2]?=some p.1))&&
  (scope.names.all λy=>match y.2 with
   | .free=>(match sc.names.lookup y.1 with|some .cell=>true|some .free=>true|_=>false)
   | .local=>decide (y.1∈own.map (·.1))||decide (y.1∉N)
   | .cell=>decide (y.1∈own.map (·.1))||decide (y.1∉N)
   |_=>true)
theorem fI{N:List Str}{sc scope:Scope}{own:List (Str×Nat)}(h:T7 N sc scope own=true):EY N sc scope own:=by
 unfold T7 at h;simp only[a6,bE,cx]at h;obtain⟨⟨⟨h1,h2⟩,h3⟩,h4⟩:=h;refine⟨?_,h2,h3,λy hy e=>?_,λy hy e=>?_⟩
 ·split at h1
  ·assumption
  ·cases h1
 ·have q:=h4 y hy
  simp only[e]at q;split at q<;>first|exact .inl (by assumption)|exact .inr (by assumption)|cases q
 ·have q:=h4 y hy
  rcases e with e|e<;>(simp only[e,dq,cx]at q;exact q)
section
variable{κ:Type} [DecidableEq κ]
def fB(bJ:List (κ×V))(k:κ):Option V:=(bJ.find? λkv=>decide (kv.1=k)).map (·.2)
def putK(bJ:List (κ×V))(k:κ)(v:V):List (κ×V):=
 if(bJ.any λkv=>decide (kv.1=k))=true then bJ.map (λkv=>if kv.1=k then(kv.1,v)else kv)else bJ++ [(k,v)]
def kL(bJ:List (κ×V))(k:κ):List (κ×V):=bJ.filter λkv=>decide (kv.1≠k)
theorem tD{p:κ×V}{r:List (κ×V)}{k:κ}(e:p.1=k):fB (p::r) k=some p.2:=by simp[fB,dM,e]
theorem oZ{p:κ×V}{r:List (κ×V)}{k:κ}(e:¬p.1=k):fB (p::r) k=fB r k:=by simp[fB,dM,e]
theorem tE(k:κ):∀bJ:List (κ×V),(bJ.any λkv=>decide (kv.1=k))=(fB bJ k).isSome
 | []=>rfl
 |p::r=>by
  rw[ic]
  by_cases e:p.1=k
  ·simp only[tD e,aJ e,Bool.true_or,Option.isSome_some]
  ·rw[oZ e,aD e,Fl];exact tE k r
theorem pS(bJ:List (κ×V))(k:κ)(v:V):(putK bJ k v).length<=bJ.length+1:=by
 unfold putK;split
 ·rw[ab];omega
 ·rw[aA,aq,bR];omega
theorem jm{bJ:List (κ×V)}{k:κ}(v:V)(h:fB bJ k=none):putK bJ k v=bJ++ [(k,v)]:=by
 unfold putK;rw[tE,h];exact aw (by decide)
theorem oR.lq{o:Option V}{u:Option Value}(r:oR o u):o.isSome=u.isSome:=by
 cases o with
 |none=>cases u with
  |none=>rfl
  |some _=>exact(show False from r).elim
 |some _=>cases u with
  |none=>exact(show False from r).elim
  |some _=>rfl
theorem KV.val{bJ:List (κ×V)}{vs:List (κ×Value)}(r:KV bJ vs)(k:κ):oR (fB bJ k) (valueAt vs k):=by
 unfold KV at r
 induction r with
 |nil=>exact True.intro
 | @cons p q ps qs h t ih=>
  obtain⟨h1,h2⟩:=h
  by_cases e:p.1=k
  ·have e':q.1=k:=h1.symm.trans e
   have b:valueAt (q::qs) k=some q.2:=(by simp[valueAt,dM,e']);rw[tD e,b];exact h2
  ·have e':¬q.1=k:=λz=>e (h1.trans z)
   have b:valueAt (q::qs) k=valueAt qs k:=(by simp[valueAt,dM,e']);rw[oZ e,b];exact ih
theorem KV.any{bJ:List (κ×V)}{vs:List (κ×Value)}(r:KV bJ vs)(k:κ):(bJ.any λkv=>decide (kv.1=k))=vs.any λkv=>decide (kv.1=k):=by
 unfold KV at r
 induction r with
 |nil=>rfl
 |cons h t ih=>rw[ic,ic,ih,h.1]
theorem KV.PU{bJ:List (κ×V)}{vs:List (κ×Value)}(r:KV bJ vs)(k:κ){y:V}{u:Value}(ry:RelV y u):
  KV (bJ.map λkv=>if kv.1=k then(kv.1,y)else kv) (vs.map λkv=>if kv.1=k then(kv.1,u)else kv):=by
 unfold KV at r⊢
 induction r with
 |nil=>exact .nil
 | @cons p q ps qs h t ih=>
  rw[aT,aT];refine .cons ?_ ih;obtain⟨h1,h2⟩:=h
  by_cases e:p.1=k
  ·rw[az e,az (h1.symm.trans e)];exact⟨h1,ry⟩
  ·rw[aw e,aw (λz=>e (h1.trans z))];exact⟨h1,h2⟩
theorem KV.put{bJ:List (κ×V)}{vs:List (κ×Value)}(r:KV bJ vs)(k:κ){y:V}{u:Value}(ry:RelV y u):KV (putK bJ k y) (stored vs k u):=by
 unfold putK stored;rw[r.any k]
 by_cases e:(vs.any λkv=>decide (kv.1=k))=true
 ·rw[az e,az e];exact r.PU k ry
 ·rw[aw e,aw e];exact Paired.snoc r ⟨rfl,ry⟩
theorem KV.drop{bJ:List (κ×V)}{vs:List (κ×Value)}(r:KV bJ vs)(k:κ):KV (kL bJ k) (without vs k):=by
 unfold KV at r⊢;unfold kL without
 induction r with
 |nil=>exact .nil
 | @cons p q ps qs h t ih=>
  obtain⟨h1,h2⟩:=h;rw[dQ,dQ]
  by_cases e:p.1=k
  ·have a:¬decide (p.1≠k)=true:=by simp[e]
   have b:¬decide (q.1≠k)=true:=(by simp[h1.symm.trans e]);rw[aw a,aw b];exact ih
  ·have e':¬q.1=k:=λz=>e (h1.trans z)
   have a:decide (p.1≠k)=true:=(by simp[e]);have b:decide (q.1≠k)=true:=by simp[e']
   rw[az a,az b];exact .cons ⟨h1,h2⟩ ih
theorem KV.keys{bJ:List (κ×V)}{vs:List (κ×Value)}(r:KV bJ vs):bJ.map (·.1)=vs.map (·.1):=by
 unfold KV at r
 induction r with
 |nil=>rfl
 |cons h t ih=>rw[aT,aT,ih,h.1]
theorem KV.length{bJ:List (κ×V)}{vs:List (κ×Value)}(r:KV bJ vs):bJ.length=vs.length:=j8 r
theorem EA(bJ:List (κ×V))(k:κ):(kL bJ k).length<=bJ.length:=bu _ _
end
theorem uu{P:Program}{w:World}{k:Key}{u:Value}(r:RelV (kV k) u):(d9 P w).is k u=true:=by
 cases k with
 |inl i=>obtain⟨t,e⟩:=(show∃t,u=Value.int i t from r);subst e;exact D8 P w i t
 |inr x=>obtain⟨t,e⟩:=(show∃t,u=Value.str x t from r);subst e;exact D7 P w x t
theorem A9{P:Program}{w:World}:∀{ks:List Key}{us:List Value},Vals (ks.map kV) us->ItemsAre (d9 P w) ks us
 | [],_,r=>by rw[kr]at r;cases r;exact .nil
 |k::ks,_,r=>by
  rw[aT]at r;cases r with
  |cons h t=>exact .cons (uu h) (A9 t)
abbrev KT(H:Hp):List (List Key×V)->List (List Key×Addr×Value)->Prop:=Paired λp q=>p.1=q.1/\H q.2.1=some (.tup (p.1.map kV))/\RelV p.2 q.2.2
theorem KT.val{H:Hp}{bJ:List (List Key×V)}{xs:List (List Key×Addr×Value)}(r:KT H bJ xs)(k:List Key):oR (fB bJ k) ((atKey xs k).map (·.2)):=by
 induction r with
 |nil=>exact True.intro
 | @cons p q ps qs h t ih=>
  obtain⟨h1,_,h2⟩:=h
  by_cases e:p.1=k
  ·have e':q.1=k:=h1.symm.trans e
   have b:atKey (q::qs) k=some q.2:=(by simp[atKey,dM,e']);rw[tD e,b];exact h2
  ·have e':¬q.1=k:=λz=>e (h1.trans z)
   have b:atKey (q::qs) k=atKey qs k:=(by simp[atKey,dM,e']);rw[oZ e,b];exact ih
theorem KT.PU{H:Hp}{bJ:List (List Key×V)}{xs:List (List Key×Addr×Value)}(r:KT H bJ xs)(k:List Key){y:V}{u:Value}(ry:RelV y u):
  KT H (bJ.map λkv=>if kv.1=k then(kv.1,y)else kv) (xs.map (putAt k u)):=by
 induction r with
 |nil=>exact .nil
 | @cons p q ps qs h t ih=>
  rw[aT,aT];refine .cons ?_ ih;obtain⟨h1,h2,h3⟩:=h;unfold putAt
  by_cases e:p.1=k
  ·rw[az e,az (h1.symm.trans e)];exact⟨h1,h2,ry⟩
  ·rw[aw e,aw (λz=>e (h1.trans z))];exact⟨h1,h2,h3⟩
theorem KT.put{H:Hp}{bJ:List (List Key×V)}{xs:List (List Key×Addr×Value)}(r:KT H bJ xs)(k:List Key){b:Addr}{y:V}{u:Value}(hb:H b=some (.tup (k.map kV)))(ry:RelV y u):
  KT H (putK bJ k y) (storedH xs k b u):=by
 have e:(bJ.any λkv=>decide (kv.1=k))=(atKey xs k).isSome:=by
  rw[tE,(r.val k).lq,mI]
 unfold putK storedH;rw[e]
 by_cases q:(atKey xs k).isSome=true
 ·rw[az q,az q];exact r.PU k ry
 ·rw[aw q,aw q];exact Paired.snoc r ⟨rfl,hb,ry⟩
theorem KT.keeps{H H':Hp}{bJ:List (List Key×V)}{xs:List (List Key×Addr×Value)}(r:KT H bJ xs)(ht:∀b ys,H b=some (.tup ys)->H' b=some (.tup ys)):KT H' bJ xs:=
 Paired.Qr r λ_ _ z=>⟨z.1,ht _ _ z.2.1,z.2.2⟩
section
variable{P:Program}{w:World}{H:Hp}{h:Heap}{a:Addr}
theorem Oq{u:HO}(ok:qI P w H h)(e:Rd H a u):fz P w H h a u:=e.ok ok
theorem uC{bJ:List (Key×V)}(ok:qI P w H h)(e:Rd H a (.dK bJ)):bJ.length<=sizeLine/\(a==sysModules)=false/\∃vs,KV bJ vs/\h.DictOf (d9 P w) a vs:=
 show fz P w H h a (.dK bJ)from Oq ok e
theorem EB{bJ:List (Key×V)}(ok:qI P w H h)(e:H a=some (.dK bJ)):bJ.length<=sizeLine/\(a==sysModules)=false/\∃vs,KV bJ vs/\h.DictOf (d9 P w) a vs:=uC ok (.inl e)
theorem yS{ks:List Key}(ok:qI P w H h)(e:H a=some (.tup (ks.map kV))):(tupleKind (d9 P w)).is h ks a:=by
 obtain⟨_,bU,r,o,h1,h2,n,h3⟩:=(show fz P w H h a (.tup (ks.map kV))from ok a _ e);exact⟨o,bU.toArray,n,h1,h2,h3,by simpa using A9 r⟩
theorem Bf{bJ:List (List Key×V)}(ok:qI P w H h)(e:Rd H a (.dT bJ)):bJ.length<=sizeLine/\(a==sysModules)=false/\
  ∃xs,KT H bJ xs/\h.DictOfH (tupleKind (d9 P w)) a xs:=by
 obtain⟨z,y,xs,r,o,es,ep,h1,h2,h3,h4,h5⟩:=(show fz P w H h a (.dT bJ)from Oq ok e);refine⟨z,y,xs,r,o,es,ep,h1,h2,h3,h4,λx hx=>?_,h5⟩;have all:∀{l:List (List Key×V)}{m:List (List Key×Addr×Value)},KT H l m->∀x∈m,(tupleKind (d9 P w)).is h x.1 x.2.1:=by
  intro l m q
  induction q with
  |nil=>intro x hx;exact nomatch hx
  | @cons p q ps qs hq t ih=>
   intro x hx;rcases aB.mp hx with e|hx
   ·subst e
    exact yS ok (by rw[<-hq.1];exact hq.2.1)
   ·exact ih x hx
 exact all r x hx
theorem OR{bJ:List (List Key×V)}(ok:qI P w H h)(e:H a=some (.dT bJ)):bJ.length<=sizeLine/\(a==sysModules)=false/\
  ∃xs,KT H bJ xs/\h.DictOfH (tupleKind (d9 P w)) a xs:=Bf ok (.inl e)
end
def eG(H:Hp)(a:Addr)(y:V)(r:Option V):Prop:=
 (∃bJ k,Rd H a (.dK bJ)/\y=kV k/\r=fB bJ k)\/∃bJ k b,Rd H a (.dT bJ)/\y=.ref b/\H b=some (.tup (k.map kV))/\r=fB bJ k
def sZ(H:Hp)(a:Addr)(y v:V)(H':Hp):Prop:=
 (∃bJ k,H a=some (.dK bJ)/\y=kV k/\bJ.length<sizeLine/\H'=upd H a (.dK (putK bJ k v)))\/
 ∃bJ k b,H a=some (.dT bJ)/\y=.ref b/\H b=some (.tup (k.map kV))/\bJ.length<sizeLine/\H'=upd H a (.dT (putK bJ k v))
theorem eG.k{H:Hp}{a:Addr}{bJ:List (Key×V)}{k:Key}(e:H a=some (.dK bJ)):eG H a (kV k) (fB bJ k):=.inl ⟨bJ,k,.inl e,rfl,rfl⟩
theorem eG.t{H:Hp}{a b:Addr}{bJ:List (List Key×V)}{k:List Key}(e:H a=some (.dT bJ))(eb:H b=some (.tup (k.map kV))):eG H a (.ref b) (fB bJ k):=.inr ⟨bJ,k,b,.inl e,rfl,eb,rfl⟩
theorem sZ.k{H:Hp}{a:Addr}{bJ:List (Key×V)}{k:Key}{v:V}(e:H a=some (.dK bJ))(hl:bJ.length<sizeLine):sZ H a (kV k) v (upd H a (.dK (putK bJ k v))):=.inl ⟨bJ,k,e,rfl,hl,rfl⟩
theorem sZ.t{H:Hp}{a b:Addr}{bJ:List (List Key×V)}{k:List Key}{v:V}(e:H a=some (.dT bJ))(eb:H b=some (.tup (k.map kV)))(hl:bJ.length<sizeLine):
  sZ H a (.ref b) v (upd H a (.dT (putK bJ k v))):=.inr ⟨bJ,k,b,e,rfl,eb,hl,rfl⟩
section
variable{X:Cx}{pins:List (Addr×Obj)}{σ:St}{H:Hp}{s:Shared}{a:Addr}{y v:V}{u r:Value}{o:Option V}{A:Around}{E:fw}
theorem Inv.big(I:Inv X pins σ H s):sysModules<s.heap.objs.size:=by
 have h:mainGlobals<s.heap.objs.size:=(I.mod.glob.keeps I.bk).lt
 exact Nat.lt_trans (by decide) h
theorem Jg{Q:fw}(hu:A.units+1<cLine)(I:Inv X pins σ H s)(g:eG H a y (some v))(ry:RelV y u)(h:∀w' s',Inv X pins σ H s'->RelV v w'->Q w' s'):
  wpAny (model X.prog X.w) A (getItem (.ref a) u) Q E s:=by
 rcases g with⟨bJ,k,e,ey,l⟩|⟨bJ,k,b,e,ey,eb,l⟩
 ·subst ey
  obtain⟨z,hd,vs,rel,dd⟩:=uC I.dy e;obtain⟨w',hw,FL⟩:=oR.some_of (v:=v) (o:=valueAt vs k) (by rw[l];exact rel.val k);exact wpAny_getItem_of (uu ry) dd.mapOf hw (h w' _ (I.tok _) FL)
 ·subst ey
  cases(show u=Value.ref b from ry);obtain⟨z,hd,xs,rel,dd⟩:=Bf I.dy e;obtain⟨w',hw,FL⟩:=oR.some_of (v:=v) (o:=(atKey xs k).map (·.2)) (by rw[l];exact rel.val k)
  obtain⟨p,hp,OG⟩:=bO.mp hw;refine wpAny_getItem_heap (xk hu) (yS I.dy eb) dd hp ?_;rw[OG];exact h w' _ (I.tok _) FL
theorem Xi{Q:fw}(hu:A.units+1<cLine)(I:Inv X pins σ H s)(g:eG H a y o)(ry:RelV y u)(h:∀s',Inv X pins σ H s'->Q (.bool o.isSome) s'):
  wpAny (model X.prog X.w) A (compareOp .In u (.ref a)) Q E s:=by
 rcases g with⟨bJ,k,e,ey,l⟩|⟨bJ,k,b,e,ey,eb,l⟩
 ·subst ey
  obtain⟨z,hd,vs,rel,dd⟩:=uC I.dy e;refine wpAny_in_of (uu ry) hd dd.mapOf ?_;rw[<-(rel.val k).lq,<-l]
  exact h _ (I.tok _)
 ·subst ey
  cases(show u=Value.ref b from ry);obtain⟨z,hd,xs,rel,dd⟩:=Bf I.dy e;refine wpAny_in_heap (xk hu) (yS I.dy eb) hd dd ?_;have q:=(rel.val k).lq
  rw[mI]at q;rw[<-q,<-l];exact h _ (I.tok _)
theorem NV{Q:fw}(hu:A.units+1<cLine)(I:Inv X pins σ H s)(g:eG H a y o)(ry:RelV y u)(h:∀s',Inv X pins σ H s'->Q (.bool (!o.isSome)) s'):
  wpAny (model X.prog X.w) A (compareOp .NotIn u (.ref a)) Q E s:=by
 rcases g with⟨bJ,k,e,ey,l⟩|⟨bJ,k,b,e,ey,eb,l⟩
 ·subst ey
  obtain⟨z,hd,vs,rel,dd⟩:=uC I.dy e;refine wpAny_notIn_of (uu ry) hd dd.mapOf ?_;rw[<-(rel.val k).lq,<-l]
  exact h _ (I.tok _)
 ·subst ey
  cases(show u=Value.ref b from ry);obtain⟨z,hd,xs,rel,dd⟩:=Bf I.dy e;refine wpAny_notIn_heap (xk hu) (yS I.dy eb) hd dd ?_;have q:=(rel.val k).lq
  rw[mI]at q;rw[<-q,<-l];exact h _ (I.tok _)
theorem qy{h':Heap}{t':Nat}{ob:HO}(I:Inv X pins σ H s)(mu:O1 (H a))(hs:Heap.SameBut a s.heap h')(he:∃q,h'.get? a=some q)(new:fz X.prog X.w (upd H a ob) h' a ob):
  Inv X pins σ (upd H a ob) {s with heap:=h',toks:=t'}:=
 I.write (x:=a) (e:=a) mu (.inl rfl) (λb q hb z=>(hs.2 b hb).trans z) he new
theorem zf{P:Program}{w:World}{H':Hp}{h':Heap}{bJ:List (Key×V)}{vs:List (Key×Value)}(z:bJ.length<=sizeLine)(hd:(a==sysModules)=false)(rel:KV bJ vs)(dd:h'.DictOf (d9 P w) a vs):
  fz P w H' h' a (.dK bJ):=⟨z,hd,vs,rel,dd⟩
theorem Jf{H':Hp}{Q:Unit->Shared->Prop}(hu:A.units+1<cLine)(I:Inv X pins σ H s)(g:sZ H a y v H')(ry:RelV y u)(rv:RelV v r)(h:∀s',Inv X pins σ H' s'->Q () s'):
  wpAny (model X.prog X.w) A (setItem (.ref a) u r) Q E s:=by
 rcases g with⟨bJ,k,e,ey,l,eH⟩|⟨bJ,k,b,e,ey,eb,l,eH⟩
 ·subst ey eH
  obtain⟨z,hd,vs,rel,dd⟩:=EB I.dy e;have hz:vs.length<=sizeLine:=by rw[<-rel.length];exact z
  have hl:(putK bJ k v).length<=sizeLine:=by have:=pS bJ k v;omega
  refine wpAny_setItem_pairs (hsz:=hz) (uu ry) dd λh' Dh hs=>h _ ?_
  have he:∃q,h'.get? a=some q:=let⟨q,_,_,hq,_⟩:=Dh;⟨q,hq⟩;exact qy I (by rw[e];exact True.intro) hs he (zf hl hd (rel.put k rv) Dh)
 ·subst ey eH
  cases(show u=Value.ref b from ry);obtain⟨z,hd,xs,rel,dd⟩:=OR I.dy e;have hz:xs.length<=sizeLine:=by rw[<-j8 rel];exact z
  have hl:(putK bJ k v).length<=sizeLine:=by have:=pS bJ k v;omega
  refine wpAny_setItem_heap (hsz:=hz) (xk hu) (yS I.dy eb) dd λh' Dh hs=>h _ ?_
  obtain⟨q,es,ep,hq,h2,h3,h4,_,h5⟩:=Dh;refine qy I (by rw[e];exact True.intro) hs ⟨q,hq⟩ ⟨hl,hd,_,(rel.put k eb rv).keeps λc ys ec=>?_,q,es,ep,hq,h2,h3,h4,h5⟩
  rw[aG (cF ec e (λz=>nomatch z))];exact ec
end
section
variable{X:Cx}{pins:List (Addr×Obj)}{σ:St}{H:Hp}{s:Shared}{a:Addr}{bJ:List (Key×V)}{k:Key}{u:Value}{A:Around}{E:fw}
theorem RT{Q:Unit->Shared->Prop}(I:Inv X pins σ H s)(e:H a=some (.dK bJ))(ry:RelV (kV k) u)(l:(fB bJ k).isSome=true) (h:∀s',Inv X pins σ (upd H a (.dK (kL bJ k))) s'->Q () s'):
  wpAny (model X.prog X.w) A (delItem (.ref a) u) Q E s:=by
 obtain⟨z,hd,vs,rel,dd⟩:=EB I.dy e;refine wpAny_delItem_slot dd.typeIs (by decide) PySem.F.slot_dict_delitem
  (call_meetsIn PySem.F.slot_dict_delitem dd.typeIs PySem.F.entry_dict_delitem (PySem.F.args_dict_delitem_2 _ _) (meets_dict_delitem_pairs (d9 X.prog X.w) a (uu ry)) ⟨vs,dd,by rw[<-rel.length];exact z,by rw[<-(rel.val k).lq];exact l,λh' Dh hs=>h _ ?_⟩)
 have he:∃q,h'.get? a=some q:=let⟨q,_,_,hq,_⟩:=Dh;⟨q,hq⟩;exact qy I (by rw[e];exact True.intro) hs he (zf (bf (EA bJ k) z) hd (rel.drop k) Dh)
theorem OT{v:V}{more:List Value}{Q:fw}(I:Inv X pins σ H s)(e:H a=some (.dK bJ))(ry:RelV (kV k) u)(l:fB bJ k=some v)(hm:more=[]\/∃x,more=[x])
  (h:∀w' s',Inv X pins σ (upd H a (.dK (kL bJ k))) s'->RelV v w'->Q w' s'):wpAny (model X.prog X.w) A (call (.builtin "dict.pop") (.ref a::u::more)) Q E s:=by
 obtain⟨z,hd,vs,rel,dd⟩:=EB I.dy e;obtain⟨w',hw,FL⟩:=oR.some_of (v:=v) (o:=valueAt vs k) (by rw[<-l];exact rel.val k);have hp:(keyPart u).isSome=true:=by
  cases k with
  |inl i=>obtain⟨t,q⟩:=(show∃t,u=Value.int i t from ry);subst q;rfl
  |inr x=>obtain⟨t,q⟩:=(show∃t,u=Value.str x t from ry);subst q;rfl
 have ha:argsOk "dict.pop" ⟨.ref a::u::more,[]⟩:=by
  rcases hm with q|⟨x,q⟩
  ·subst q;exact PySem.F.args_dict_pop_2 _ _
  ·subst q;exact PySem.F.args_dict_pop_3 _ _ _
 refine call_meetsIn nu dd.typeIs PySem.F.entry_dict_pop ha (meets_dict_pop_there (d9 X.prog X.w) a (uu ry) more hm hp)
  ⟨vs,w',dd,by rw[<-rel.length];exact z,hw,λh' Dh hs=>h w' _ ?_ FL⟩
 have he:∃q,h'.get? a=some q:=let⟨q,_,_,hq,_⟩:=Dh;⟨q,hq⟩;exact qy I (by rw[e];exact True.intro) hs he (zf (bf (EA bJ k) z) hd (rel.drop k) Dh)
theorem Ra{r:Value}{Q:fw}(I:Inv X pins σ H s)(e:H a=some (.dK bJ))(ry:RelV (kV k) u)(l:fB bJ k=none)(h:∀s',Inv X pins σ H s'->Q r s'):
  wpAny (model X.prog X.w) A (call (.builtin "dict.pop") [.ref a,u,r]) Q E s:=by
 obtain⟨z,hd,vs,rel,dd⟩:=EB I.dy e;have hn:valueAt vs k=none:=oR.none_of (by rw[<-l];exact rel.val k);have hp:(keyPart u).isSome=true:=by
  cases k with
  |inl i=>obtain⟨t,q⟩:=(show∃t,u=Value.int i t from ry);subst q;rfl
  |inr x=>obtain⟨t,q⟩:=(show∃t,u=Value.str x t from ry);subst q;rfl
 exact call_meetsIn nu dd.typeIs PySem.F.entry_dict_pop (PySem.F.args_dict_pop_3 _ _ _) (meets_dict_pop_default (d9 X.prog X.w) a (uu ry) hd hp r) ⟨vs,dd,hn,h _ (I.tok _)⟩
theorem T1{Q:fw}(I:Inv X pins σ H s)(e:Rd H a (.dK bJ))(h:∀t s',Inv X pins σ H s'->Q (.int bJ.length t) s'):wpAny (model X.prog X.w) A (call (.builtin "len") [.ref a]) Q E s:=by
 obtain⟨z,hd,vs,rel,dd⟩:=uC I.dy e;refine call_len_dict hd dd (by rw[<-rel.length];rw[bo]at z;omega) ?_;rw[<-rel.length];exact h _ _ (I.tok _)
end
def Rp(i:Expr):Prop:=∀ov iv,subscripted i false ov iv=operate [ov,iv] (getItem ov iv)
theorem GP{prog:Program}{w:World}{A:Around}{E:fw}{s:Shared}{env:Env}{value slice:Expr}{pos:Pos}{T id:String}{Q:fw}
  (hl:typeLookup (.type T) "__getitem__"=pure (some (.builtin id)))(hs:Rp slice)
  (h:wpAny (model prog w) A (eval value env) (λo cY=>wpAny (model prog w) A (eval slice env) (λi kC=>kC.TypeIs o T/\wpAny (model prog w) A (getItem o i) Q E kC) E cY) E s):
  wpAny (model prog w) A (eval (.Subscript value slice pos) env) Q E s:=by
 refine Subscript_ (eT h (λo cY h₁=>eT h₁ (λi kC K3=>?_) λ_ _ x=>x) λ_ _ x=>x);obtain⟨hT,K3⟩:=K3;unfold subscriptTail;refine aa ?_;rw[getitemInPython_of_ne hT.not_modules];refine aa (iD hT hl ?_);have fin:wpAny (model prog w) A (subscripted slice false o i) (λr Dr=>wpAny (model prog w) A (letTemporaryGo value o r>>=λ_=>pure r) Q E Dr) E kC:=by
  rw[hs o i];exact wpAny_operating (eT K3 (λr Dr NC=>aa (wpAny_letTemporaryGo (aj NC))) λ_ _ x=>x)
 first
  |exact aj (aa fin)
  |exact aa (aj (aa fin))
  |exact aa fin
theorem ED{X:Cx}{pins:List (Addr×Obj)}{σ:St}{H:Hp}{s:Shared}{a:Addr}{y:V}{o:Option V}(I:Inv X pins σ H s)(g:eG H a y o):s.TypeIs (.ref a) "dict":=by
 rcases g with⟨bJ,k,e,_,_⟩|⟨bJ,k,b,e,_,_,_⟩
 ·obtain⟨_,_,vs,_,dd⟩:=uC I.dy e
  exact dd.typeIs
 ·obtain⟨_,_,xs,_,dd⟩:=Bf I.dy e
  exact dd.typeIs
def Sb(td ty:TE):TE:=λσ H Q=>td σ H λx H1=>ty σ H1 λy H2=>∃a v,x=.ref a/\eG H2 a y (some v)/\Q v H2
def Vj(ty td:TE):TE:=λσ H Q=>ty σ H λy H1=>td σ H1 λx H2=>∃a o,x=.ref a/\eG H2 a y o/\Q (.bl o.isSome) H2
def MA(ty td:TE):TE:=λσ H Q=>ty σ H λy H1=>td σ H1 λx H2=>∃a o,x=.ref a/\eG H2 a y o/\Q (.bl (!o.isSome)) H2
def Su(td ty tv:TE):TS:=λD σ H=>tv σ H λv H1=>td σ H1 λx H2=>ty σ H2 λy H3=>∃a H4,x=.ref a/\sZ H3 a y v H4/\D.nx σ H4
section
variable{X:Cx}{o i e value:Expr}{pos pos' uZ:Pos}{td ty tv:TE}
theorem eJ(hu:X.A.units+1<cLine)(ho:PE X o td)(hi:PE X i ty)(hs:Rp i):PE X (.Subscript o i pos) (Sb td ty):=by
 intro pins s σ H Q I h;refine GP PySem.F.slot_dict_getitem.lookup hs (eO (ho pins s σ H _ I h) λu s1⟨x,H1,I1,rx,q1⟩=>eO (hi pins s1 σ H1 _ I1 q1) λiv s2⟨y,H2,I2,ry,a,v,ex,g,q2⟩=>?_);subst ex;obtain rfl:u=Value.ref a:=rx;exact⟨ED I2 g,Jg hu I2 g ry λw' s3 I3 FL=>⟨v,H2,I3,FL,q2⟩⟩
theorem pJ(hu:X.A.units+1<cLine)(hi:PE X i ty)(ho:PE X o td):PC X .In i o (Vj ty td):=by
 intro pins s σ H Q I h;refine eO (hi pins s σ H _ I h) λiv s1⟨y,H1,I1,ry,q1⟩=>eO (ho pins s1 σ H1 _ I1 q1) λu s2⟨x,H2,I2,rx,a,ov,ex,g,q2⟩=>?_
 subst ex;obtain rfl:u=Value.ref a:=rx;exact Xi hu I2 g ry λs3 I3=>⟨.bl ov.isSome,H2,I3,rfl,q2⟩
theorem cH(hu:X.A.units+1<cLine)(hi:PE X i ty)(ho:PE X o td):PC X .NotIn i o (MA ty td):=by
 intro pins s σ H Q I h;refine eO (hi pins s σ H _ I h) λiv s1⟨y,H1,I1,ry,q1⟩=>eO (ho pins s1 σ H1 _ I1 q1) λu s2⟨x,H2,I2,rx,a,ov,ex,g,q2⟩=>?_
 subst ex;obtain rfl:u=Value.ref a:=rx;exact NV hu I2 g ry λs3 I3=>⟨.bl (!ov.isSome),H2,I3,rfl,q2⟩
theorem md(hu:X.A.units+1<cLine)(ho:PE X o td)(hi:PE X i ty)(hv:PE X value tv)(hs:swapsWith value (some (.Subscript o i pos')) pos.line X.env=pure false):
  PS X (.Assign [.Subscript o i pos'] value pos) (Su td ty tv):=by
 intro pins s σ H D I h;refine wpAny_Assign_Subscript (eO (hv pins s σ H _ I h) λr s1⟨v,H1,I1,rv,q1⟩=>eO (ho pins s1 σ H1 _ I1 q1) λu s2⟨x,H2,I2,rx,q2⟩=>eO (hi pins s2 σ H2 _ I2 q2) λiv s3⟨y,H3,I3,ry,a,H4,ex,g,q3⟩=>?_) hs;subst ex;obtain rfl:u=Value.ref a:=rx;exact Jf hu I3 g ry rv λs4 I4=>⟨σ,H4,I4,q3⟩
end
theorem EC{P:Program}{w:World}{H:Hp}(h:Heap)(hb:sysModules<h.objs.size):fz P w H (h.push {cls:=.type "dict",data:=.dict #[]}) h.objs.size (.dK []):=
 ⟨bp _,d4.mpr (fZ (a0 hb)),[],.nil,Heap.DictOf.new h⟩
theorem Ly{P:Program}{w:World}{H:Hp}(h:Heap)(hb:sysModules<h.objs.size):fz P w H (h.push {cls:=.type "dict",data:=.dict #[]}) h.objs.size (.dT []):=
 ⟨bp _,d4.mpr (fZ (a0 hb)),[],.nil,_,#[],0,aO _ rfl,⟨rfl,rfl,rfl⟩,rfl,rfl,C2⟩
def Pp:TE:=λ_ H Q=>∀p,H p=none->Q (.ref p) (upd H p (.dK []))
def Pn:TE:=λ_ H Q=>∀p,H p=none->Q (.ref p) (upd H p (.dT []))
section
variable{X:Cx}{pos:Pos}
theorem yu:PE X (.Dict [] [] pos) Pp:=λpins s σ H Q I h=>
 wpAny_Dict_empty ⟨.ref s.heap.objs.size,_,I.laid (a:=s.heap.objs.size) (o:=.dK []) (t':=s.toks) (λ_ _ q=>ak _ q) (ay _) (EC s.heap I.big),rfl,h _ (I.dy.fresh (ay _))⟩
theorem DP:PE X (.Dict [] [] pos) Pn:=λpins s σ H Q I h=>
 wpAny_Dict_empty ⟨.ref s.heap.objs.size,_,I.laid (a:=s.heap.objs.size) (o:=.dT []) (t':=s.toks) (λ_ _ q=>ak _ q) (ay _) (Ly s.heap I.big),rfl,h _ (I.dy.fresh (ay _))⟩
end
def Ft:List (TE×TE)->St->Hp->(List (V×V)->Hp->Prop)->Prop
 | [],_,H,Q=>Q [] H
 |(tk,tv)::r,σ,H,Q=>tk σ H λx H1=>tv σ H1 λy H2=>Ft r σ H2 λps H3=>Q ((x,y)::ps) H3
abbrev VV:List (V×V)->List (Value×Value)->Prop:=Paired λp q=>RelV p.1 q.1/\RelV p.2 q.2
def U4(X:Cx)(pos:Pos)(keys:List (Option Expr))(values:List Expr)(Mu:List (TE×TE)):Prop:=
 ∀(pins:List (Addr×Obj))(s:Shared)(σ:St)(H:Hp)(Q:List (V×V)->Hp->Prop),Inv X pins σ H s->Ft Mu σ H Q->
  wpAny (model X.prog X.w) X.A (evalPairs (pairTrees keys values X.env pos)) (λvs s'=>∃ps H',Inv X pins σ H' s'/\VV ps vs/\Q ps H') X.xe s
theorem Nc{X:Cx}{pos:Pos}:U4 X pos [] [] []:=λpins s σ H Q I h=>pairTrees_nil_walk ⟨[],H,I,.nil,h⟩
theorem Kj{X:Cx}{pos:Pos}{k v:Expr}{ks:List (Option Expr)}{vs:List Expr}{tk tv:TE}{Mu:List (TE×TE)}(hk:PE X k tk)(hv:PE X v tv)(hr:U4 X pos ks vs Mu):
  U4 X pos (some k::ks) (v::vs) ((tk,tv)::Mu):=λpins s σ H Q I h=>
 pairTrees_cons_walk (eO (hk pins s σ H _ I h) λu s1⟨x,H1,I1,rx,q1⟩=>eO (hv pins s1 σ H1 _ I1 q1) λw2 s2⟨y,H2,I2,ry,q2⟩=>
  eO (hr pins s2 σ H2 _ I2 q2) λws s3⟨ps,H3,I3,rel,q3⟩=>⟨(x,y)::ps,H3,I3,.cons ⟨rx,ry⟩ rel,q3⟩)
def vw(bJ more:List (Key×V)):List (Key×V):=more.foldl (λacc kv=>putK acc kv.1 kv.2) bJ
theorem KV.merge:∀{more:List (Key×V)}{rs:List (Key×Value)}{bJ:List (Key×V)}{vs:List (Key×Value)},KV more rs->KV bJ vs->KV (vw bJ more) (merged vs rs):=by
 intro more rs bJ vs r;unfold KV at r
 induction r generalizing bJ vs with
 |nil=>intro q;exact q
 | @cons p q ps qs h t ih=>
  intro r0;have e:KV (putK bJ p.1 p.2) (stored vs q.1 q.2):=by
   have:=r0.put p.1 h.2;rw[<-h.1];exact this
  exact ih e
theorem rG:∀(more bJ:List (Key×V)),(vw bJ more).length<=bJ.length+more.length
 | [],bJ=>by show bJ.length<=bJ.length+0;omega
 |p::r,bJ=>by
  have h1:=rG r (putK bJ p.1 p.2);have h2:=pS bJ p.1 p.2;show(vw (putK bJ p.1 p.2) r).length<=_
  rw[aq];omega
theorem zm{P:Program}{w:World}:∀{bJ:List (Key×V)}{ws:List (Value×Value)},VV (bJ.map λkv=>(kV kv.1,kv.2)) ws->∃rs,Carries (d9 P w) ws rs/\KV bJ rs
 | [],_,r=>by rw[kr]at r;cases r;exact⟨[],True.intro,.nil⟩
 |p::bJ,_,r=>by
  rw[aT]at r;cases r with
  | @cons a b as bs h t=>
   obtain⟨rs,c,q⟩:=zm (P:=P) (w:=w) t;obtain⟨b1,b2⟩:=b;exact⟨(p.1,b2)::rs,⟨uu h.1,rfl,c⟩,.cons ⟨rfl,h.2⟩ q⟩
def Sa(Mu:List (TE×TE)):TE:=λσ H Q=>∀p,H p=none->Ft Mu σ (upd H p (.dK [])) λps H2=>H2 p=some (.dK [])/\∃bJ:List (Key×V),ps=bJ.map (λkv=>(kV kv.1,kv.2))/\bJ.length<=15/\Q (.ref p) (upd H2 p (.dK (vw [] bJ)))
theorem Ni{X:Cx}{pos:Pos}{keys:List (Option Expr)}{values:List Expr}{Mu:List (TE×TE)}(h:U4 X pos keys values Mu)(jy:keys.all (·.isSome)=true)(hl:keys.length=values.length)(h0:keys≠ [])
  (h15:keys.length<=15):PE X (.Dict keys values pos) (Sa Mu):=by
 intro pins s σ H Q I q;have hn:=I.dy.fresh (ay s.heap.objs.size);have I1:=I.laid (a:=s.heap.objs.size) (o:=.dK []) (h':=s.heap.push {cls:=.type "dict",data:=.dict #[]}) (t':=s.toks) (λ_ _ q=>ak _ q) (ay _) (EC s.heap I.big);refine wpAny_Dict_walk (knd:=d9 X.prog X.w) jy hl h0 h15 (eO (h pins _ σ _ _ I1 (q _ hn)) λws s2⟨ps,H2,I2,rel,e,bJ,ep,lk,q2⟩=>?_);subst ep;obtain⟨rs,c,rk⟩:=zm (P:=X.prog) (w:=X.w) rel;obtain⟨z,hd,vs0,r0,dd⟩:=EB I2.dy e;cases r0;refine⟨rs,c,dd,λh' Dh hs=>⟨.ref s.heap.objs.size,_,?_,rfl,q2⟩⟩;have hz:(vw [] bJ).length<=sizeLine:=by
  have h1:=rG bJ [];rw[bR]at h1;rw[bo];omega
 have he:∃q,h'.get? s.heap.objs.size=some q:=let⟨q,_,_,hq,_⟩:=Dh;⟨q,hq⟩;exact qy I2 (by rw[e];exact True.intro) hs he (zf hz hd (rk.merge .nil) Dh)
structure M1(X:Cx)(o:Expr)(m:Str)(apos:Pos)(e:Expr)(jI:Pos):Prop where
 base:attributeBase o m X.env (eval o X.env)=eval o X.env
 W8:((backTo jI (starEach [e] X.env)).all (λx=>!x.1)&&(backToKw jI (keywordEach [] X.env)).all (λx=>x.1.isSome)
  &&decide (([e]:List Expr).length+([]:List Keyword).length+(if([]:List Keyword).isEmpty then 0 else 1)<30))=true
 line:(apos.endLine==jI.line)=true
 trees:backTo jI (starEach [e] X.env)=[(false,eval e X.env)]
structure M2(X:Cx)(o:Expr)(m:Str)(apos:Pos)(e f:Expr)(jI:Pos):Prop where
 base:attributeBase o m X.env (eval o X.env)=eval o X.env
 W8:((backTo jI (starEach [e,f] X.env)).all (λx=>!x.1)&&(backToKw jI (keywordEach [] X.env)).all (λx=>x.1.isSome)
  &&decide (([e,f]:List Expr).length+([]:List Keyword).length+(if([]:List Keyword).isEmpty then 0 else 1)<30))=true
 line:(apos.endLine==jI.line)=true
 trees:backTo jI (starEach [e,f] X.env)=[(false,eval e X.env),(false,eval f X.env)]
def Xw(H:Hp)(a:Addr):Prop:=(∃bJ,Rd H a (.dK bJ))\/∃bJ,Rd H a (.dT bJ)
theorem K1{X:Cx}{pins:List (Addr×Obj)}{σ:St}{H:Hp}{s:Shared}{a:Addr}(I:Inv X pins σ H s)(d:Xw H a):
  s.TypeIs (.ref a) "dict"/\(∀b,Value.ref a=.ref b->∃ob,s.heap.get? b=some ob/\ob.dict=none)/\(a==sysModules)=false:=by
 rcases d with⟨bJ,e⟩|⟨bJ,e⟩
 ·obtain⟨_,hd,vs,_,dd⟩:=uC I.dy e
  refine⟨dd.typeIs,λb q=>?_,hd⟩;cases q;obtain⟨ob,_,_,h1,h2,_⟩:=dd;exact⟨ob,h1,h2.2.1⟩
 ·obtain⟨_,hd,xs,_,dd⟩:=Bf I.dy e
  refine⟨dd.typeIs,λb q=>?_,hd⟩;cases q;obtain⟨ob,_,_,h1,h2,_⟩:=dd;exact⟨ob,h1,h2.2.1⟩
def Pk(td ty:TE):TE:=λσ H Q=>td σ H λx H1=>∃a,x=.ref a/\Xw H1 a/\ty σ H1 λy H2=>∃bJ k v,H2 a=some (.dK bJ)/\y=kV k/\fB bJ k=some v/\Q v (upd H2 a (.dK (kL bJ k)))
def Pj(td ty tx:TE):TE:=λσ H Q=>td σ H λx H1=>∃a,x=.ref a/\Xw H1 a/\ty σ H1 λy H2=>tx σ H2 λz H3=>∃bJ k,H3 a=some (.dK bJ)/\y=kV k/\
 (∀v,fB bJ k=some v->Q v (upd H3 a (.dK (kL bJ k))))/\(fB bJ k=none->Q z H3)
section
variable{X:Cx}{o e f:Expr}{apos jI:Pos}{td ty tx:TE}
theorem Ks(ho:PE X o td)(he:PE X e ty)(m:M1 X o "pop" apos e jI):PE X (.Call (.Attribute o "pop" apos) [e] [] jI) (Pk td ty):=by
 intro pins s σ H Q I h;refine wpAny_Call_method m.base m.W8 m.line PySem.F.plainAttrs_dict nu PySem.F.type_dict_pop (eO (ho pins s σ H _ I h) λu s1⟨x,H1,I1,rx,a,ex,d,q1⟩=>?_);subst ex;obtain rfl:u=Value.ref a:=rx;obtain⟨t1,t2,_⟩:=K1 I1 d;refine⟨t1,t2,?_⟩;rw[m.trees];refine oU rfl (JF (xp (eO (he pins s1 σ H1 _ I1 q1) λiv s2⟨y,H2,I2,ry,bJ,k,v,ea,ey,l,q2⟩=>Calls.spliced_nil ?_)));subst ey;exact OT I2 ea ry l (.inl rfl) λw' s3 I3 FL=>⟨v,_,I3,FL,q2⟩
theorem Kr(ho:PE X o td)(he:PE X e ty)(hf:PE X f tx)(m:M2 X o "pop" apos e f jI):PE X (.Call (.Attribute o "pop" apos) [e,f] [] jI) (Pj td ty tx):=by
 intro pins s σ H Q I h;refine wpAny_Call_method m.base m.W8 m.line PySem.F.plainAttrs_dict nu PySem.F.type_dict_pop (eO (ho pins s σ H _ I h) λu s1⟨x,H1,I1,rx,a,ex,d,q1⟩=>?_);subst ex;obtain rfl:u=Value.ref a:=rx;obtain⟨t1,t2,_⟩:=K1 I1 d;refine⟨t1,t2,?_⟩;rw[m.trees];refine oU rfl (JF (xp (eO (he pins s1 σ H1 _ I1 q1) λiv s2⟨y,H2,I2,ry,q2⟩=>
  xp (eO (hf pins s2 σ H2 _ I2 q2) λfv s3⟨z,H3,I3,rz,bJ,k,ea,ey,q3,q4⟩=>Calls.spliced_nil ?_))))
 subst ey;cases l:fB bJ k with
 |some v=>exact OT I3 ea ry l (.inr ⟨fv,rfl⟩) λw' s4 I4 FL=>⟨v,_,I4,FL,q3 v l⟩
 |none=>exact Ra I3 ea ry l λs4 I4=>⟨z,H3,I4,rz,q4 l⟩
end
section
variable{X:Cx}{pins:List (Addr×Obj)}{σ:St}{H:Hp}{s:Shared}{a:Addr}{bJ:List (Key×V)}{A:Around}{E:fw}
theorem LF{Q:fw}(I:Inv X pins σ H s)(e:Rd H a (.dK bJ))(h:∀p s',H p=none->Inv X pins σ (upd H p (.dK bJ)) s'->Q (.ref p) s'):wpAny (model X.prog X.w) A (call (.type "dict") [.ref a]) Q E s:=by
 obtain⟨z,hd,vs,rel,dd⟩:=uC I.dy e;refine kt_call_dict hd dd (by rw[<-rel.length];exact z) λh' Dh hs=>?_
 refine h _ _ (I.dy.fresh (ay _)) (I.laid (a:=s.heap.objs.size) (o:=.dK bJ) (t':=s.toks) (λb q hq=>?_) (ay _) (zf z (d4.mpr (fZ (a0 I.big))) rel Dh));exact(hs.2 b (a0 (aM hq))).trans (ak _ hq)
end
section
variable{X:Cx}{pins:List (Addr×Obj)}{σ:St}{H:Hp}{s:Shared}{h':Heap}
theorem Inv.GL{t':Nat}{ch:List Addr}(I:Inv X pins σ H s)(k:∀b o,b∉ch->s.heap.get? b=some o->h'.get? b=some o)(hf:∀b∈ch,xh X pins H b):Inv X pins σ H {s with heap:=h',toks:=t'}:=by
 have OA:∀b u,H b=some u->b∉ch:=λb u e z=>by
  have q:=(hf b z).1
  rw[q]at e;cases e
 refine I.step (g':=s.gens) (d':=s.drawn) (ch:=ch) (λb hb=>⟨(hf b hb).2.2.2.1,(hf b hb).2.1,(hf b hb).2.2.2.2.1,(hf b hb).2.2.2.2.2⟩) (λb o _ _ hc e _=>k b o hc e) (λb o _ _ hc e _=>⟨o.slots,k b o hc e⟩)
  (λ_ _ _ _ n=>n) (λb o hc e=>⟨o,k b o hc e⟩) (λ_ _ e=>e) (λ_ _ _ e=>e) (λb ps e=>⟨#[],by rw[e];simp⟩) (λm hm=>?_) (λb u e=>?_) I.bare
 ·obtain⟨o,es,ep,ho,r⟩:=hm
  exact⟨o,es,ep,k _ o (λz=>(hf _ z).2.1 rfl) ho,r⟩
 ·refine(I.dy b u e).tJ (λc v hc q=>k c v ?_ q) (λ_ q=>q) λ_ _ q=>q
  rcases hc with z|z
  ·rw[z];exact OA b u e
  ·exact OA c _ z
theorem Inv.uY{t':Nat}{ch:List Addr}{T:Addr}{ob:HO}(I:Inv X pins σ H s)(k:∀b o,b∉ch->s.heap.get? b=some o->h'.get? b=some o)(hf:∀b∈ch,xh X pins H b)(hT:s.heap.objs.size<=T)
  (new:fz X.prog X.w (upd H T ob) h' T ob):Inv X pins σ (upd H T ob) {s with heap:=h',toks:=t'}:=by
 have hn:H T=none:=I.dy.fresh hT;have OA:∀b u,H b=some u->b∉ch:=λb u e z=>by
  have q:=(hf b z).1
  rw[q]at e;cases e
 refine I.step (g':=s.gens) (d':=s.drawn) (ch:=ch) (λb hb=>⟨(hf b hb).2.2.2.1,(hf b hb).2.1,(hf b hb).2.2.2.2.1,(hf b hb).2.2.2.2.2⟩) (λb o _ _ hc e _=>k b o hc e) (λb o _ _ hc e _=>⟨o.slots,k b o hc e⟩)
  (λb o _ e n=>?_) (λb o hc e=>⟨o,k b o hc e⟩) (λb xs e=>?_) (λb o u e=>?_) (λb ps e=>⟨#[],?_⟩) (λm hm=>?_) (λb u e=>?_) I.bare
 ·rw[aG (a0 (bA (aM e) hT))];exact n
 ·rw[aG (aR e hn)];exact e
 ·rw[aG (aR e hn)];exact e
 ·rw[aG (aR e hn),e];simp
 ·obtain⟨o,es,ep,ho,r⟩:=hm
  exact⟨o,es,ep,k _ o (λz=>(hf _ z).2.1 rfl) ho,r⟩
 ·by_cases hb:b=T
  ·subst hb
   rw[ai]at e;cases e;exact new
  ·rw[aG hb]at e
   refine(I.dy b u e).tJ (λc v hc q=>k c v ?_ q) (λc q=>by rw[aG (aR q hn)];exact q) λc xs q=>by rw[aG (aR q hn)];exact q
   rcases hc with z|z
   ·rw[z];exact OA b u e
   ·exact OA c _ z
theorem Inv.lock{d:Addr}{u:HO}(I:Inv X pins σ H s)(h:H d=some u)(mu:O1 (some u)):∃od,Inv X pins σ (upd H d (.iV od u)) s:=by
 have x:=I.dy d u h;have ex:∃od,s.heap.get? d=some od:=by
  cases u with
  |lst xs=>obtain⟨_,_,_,_,e⟩:=x;exact⟨_,e⟩
  |dK bJ=>obtain⟨_,_,_,_,o,_,_,e,_⟩:=x;exact⟨o,e⟩
  |dT bJ=>obtain⟨_,_,_,_,o,_,_,e,_⟩:=x;exact⟨o,e⟩
  |set S n=>obtain⟨o,_,_,_,e,_⟩:=x;exact⟨o,e⟩
  |ins C dx fs=>obtain⟨_,_,_,e,_⟩:=x;exact⟨_,e⟩
  |ext φ=>obtain⟨_,⟨_,e⟩,_⟩:=x;exact⟨_,e⟩
  |_=>exact False.elim mu
 obtain⟨od,e⟩:=ex;have new:fz X.prog X.w (upd H d (.iV od u)) s.heap d (.iV od u):=by
  refine⟨e,x.tJ (λb v _ q=>q) (λb q=>?_) λb xs q=>?_⟩
  ·rw[aG (λz=>by rw[z,h]at q;cases q;exact mu)];exact q
  ·rw[aG (λz=>by rw[z,h]at q;cases q;exact mu)];exact q
 exact⟨od,I.write (x:=d) (e:=d) (t':=s.toks) (h':=s.heap) (by rw[h];exact mu) (.inl rfl) (λb v _ q=>q) ⟨od,e⟩ new⟩
theorem Inv.SO{d:Addr}{u:HO}(I:Inv X pins σ H s)(h:H d=some u)(mu:O1 (some u)):∀o' u',X.Rq d≠some (.iV o' u'):=λo' u' e=>by
 have q:=I.base.yY d o' u' e;rw[h]at q;cases q;exact mu
theorem Inv.unlock{d:Addr}{od:Obj}{u:HO}(I:Inv X pins σ H s)(h:H d=some (.iV od u))(hn:∀o' u',X.Rq d≠some (.iV o' u')):Inv X pins σ (upd H d u) s:=by
 have RD:∀b o,H b=some o->(∀o' u',o≠ .iV o' u')->b≠d:=λb o e vE z=>by
  rw[z,h]at e;cases e;exact vE _ _ rfl
 have neN:∀b,H b=none->b≠d:=λb e z=>by rw[z,h]at e;cases e
 refine⟨I.ok,I.os,I.bare,⟨I.base.keep,I.base.slot,λb o e n hx=>?_,I.base.there,λb xs e=>?_,λb o x e=>?_,λb ps e=>?_⟩,I.loc,I.cell,?_,λx c e=>?_,λp hp=>?_,λb o e=>?_,I.len⟩
 ·rw[aG (neN b (I.base.free b o e n hx))];exact I.base.free b o e n hx
 ·have q:=I.base.lB b xs e
  rw[aG (RD b _ q (λ_ _ z=>nomatch z))];exact q
 ·have q:=I.base.yY b o x e
  rw[aG (λz=>by rw[z]at e;exact hn _ _ e)];exact q
 ·obtain⟨m,q⟩:=I.base.zX b ps e
  exact⟨m,by rw[aG (RD b _ q (λ_ _ z=>nomatch z))];exact q⟩
 ·rw[aG (neN _ I.free)];exact I.free
 ·rw[aG (neN c (I.m6 x c e))];exact I.m6 x c e
 ·obtain⟨e,n,r⟩:=I.pin p hp
  exact⟨e,by rw[aG (neN _ n)];exact n,r⟩
 ·by_cases hb:b=d
  ·rw[hb,ai]at e
   cases e;rw[hb];obtain⟨_,x⟩:=I.dy d _ h;exact x.tJ (λc v _ q=>q) (λc q=>by rw[aG (RD c _ q (λ_ _ z=>nomatch z))];exact q) λc xs q=>by rw[aG (RD c _ q (λ_ _ z=>nomatch z))];exact q
  ·rw[aG hb]at e
   exact(I.dy b o e).tJ (λc v _ q=>q) (λc q=>by rw[aG (RD c _ q (λ_ _ z=>nomatch z))];exact q) λc xs q=>by rw[aG (RD c _ q (λ_ _ z=>nomatch z))];exact q
end
def Ph(t:TE):TE:=λσ H Q=>∃d u,H d=some u/\O1 (some u)/\∀od,t σ (upd H d (.iV od u)) λv H'=>H' d=some (.iV od u)/\Q v (upd H' d u)
section
variable{X:Cx}
theorem xy{e:Expr}{t:TE}(h:PE X e t):PE X e (Ph t):=by
 intro pins s σ H Q I hw;obtain⟨d,u,hd,mu,hw⟩:=hw;obtain⟨od,I1⟩:=I.lock hd mu;refine eO (h pins s σ _ _ I1 (hw od)) λv s1⟨x,H1,I2,r,e2,q⟩=>?_
 exact⟨x,_,I2.unlock e2 (I.SO hd mu),r,q⟩
theorem Kk{tg:Expr}{pins:List (Addr×Obj)}{σ:St}{H:Hp}{s:Shared}{R:It->Hp->Prop}{J:It}{tn:Nat->Heap->Prop}{tk:Nat}(I:Inv X pins σ H s)(o:Obj)
  (T:Turn X.prog X.w X.K tg J [s.heap.objs.size] s.heap.objs.size tn)(st:tn 0 (s.heap.push o))(q:R J H):U5 X pins σ tg R (.ref s.heap.objs.size) {s with heap:=s.heap.push o,toks:=tk}:=by
 refine⟨s.heap.objs.size,[s.heap.objs.size],tn,J,H,rfl,I.kept λb ob e=>ak _ e,T,st,λb hb=>?_,q⟩;have e:b=s.heap.objs.size:=by simpa using hb
 subst e;exact I.Gi (ay _) (I.dy.fresh (ay _))
end
def XN(lo c:Int)(n:Nat):It:=⟨λi _=>i<n,λi H x H'=>H'=H/\x=.int (lo+(i:Nat)*c),λi _=>n<=i⟩
theorem Dq{P:Program}{w:World}{K:c9}{tg:Expr}(it:Addr)(lo c:Int)(n:Nat):Turn P w K tg (XN lo c n) [it] it (λi h=>IsRangeIter h it (lo+(i:Nat)*c) ((n:Int)-(i:Nat)) c) where
 mem:=by simp
 obj:=λi h st b hb=>by
  have e:b=it:=by simpa using hb
  subst e;exact⟨_,st,λv z=>nomatch z⟩
 keep:=λi h h' st k=>k it (by simp) _ st
 item:=by
  intro X hP hw hK hc i pins s σ H E I hf st hg;subst hP hw hK;obtain⟨f0,f1,f2,f3,f4,f5⟩:=hf it (by simp);have W:=Walks.range (prog:=X.prog) (w:=X.w) (I.ok.hd hc) it lo c n;refine W.item i s _ _ hg st λv h' tk hv tu kk=>?_
  obtain⟨t,rfl⟩:=hv;have I1:Inv X pins σ H {s with heap:=h',toks:=tk}:=I.turned (λb o hb e=>kk b o (by simpa using hb) e) f0 f1 f3 f4 f5;exact⟨_,rfl,Hj (s:={s with heap:=h',toks:=tk}) (n:="range_iterator") tu rfl rfl (by decide) ⟨.int (lo+(i:Nat)*c),H,I1,⟨t,rfl⟩,⟨rfl,rfl⟩,tu,λb hb=>(hf b hb).1⟩⟩
 done:=by
  intro X hP hw hK hc i pins s σ H E I hf st hg;subst hP hw hK;obtain⟨f0,f1,f2,f3,f4,f5⟩:=hf it (by simp);exact wpAny_pyNext_range_end (I.ok.hd hc) st (by have:n<=i:=hg;omega) λh' eb=>⟨rfl,I.turned (t':=s.toks) (λb o hb e=>eb b o hb e) f0 f1 f3 f4 f5⟩
 self:=λA i s Q E st h=>wpAny_pyIter_rangeiter st h
def XH(i j c:Int)(n:Nat):Prop:=c≠0/\c.natAbs<1073741824/\Builtin.Range.small i j c=true/\Builtin.Range.rangeSize i j c=n
def S4(ta:TA):TI:=λσ H R=>ta σ H λvs H1=>∃(i j c:Int)(n:Nat),vs=[.int i,.int j,.int c]/\XH i j c n/\R (XN i c n) H1
section
variable{X:Cx}{tg:Expr}
theorem Ik{a b c:Expr}{ta:TA}{p pos:Pos}(hg:Gl X "range")(hm:X.mg "range"=none)(ha:PA X [a,b,c] ta)
  (hs:starEach [a,b,c] X.env=(false,eval a X.env)::starEach [b,c] X.env:=by rfl)(vC:(backTo pos (starEach [b,c] X.env)).any (·.1)=false:=by rfl):
  PI X tg (.Call (.Name "range" p) [a,b,c] [] pos) (S4 ta):=by
 intro pins s σ H R I h;refine Call_ (pT I hg hm boot_range (eN (eO (ha pos pins s σ H _ I h) λus s1⟨vs,H1,I1,r1,q1⟩=>?_) hs vC));obtain⟨i,j,k,n,e,⟨c0,c1,c2,c3⟩,q⟩:=q1;subst e;cases r1 with
 |cons r rr=>
  cases rr with
  |cons r' rr=>
   cases rr with
   |cons r'' rr=>
    cases rr;obtain⟨t,rfl⟩:=r;obtain⟨t',rfl⟩:=r';obtain⟨t'',rfl⟩:=r'';refine call_range_3 c0 ?_ (.inl (PyProof.noPylong_small c1));refine wpAny_pyIter_range (IsRange.new ..) c2 ?_;have I2:Inv X pins σ H1 {s1 with heap:=s1.heap.push {cls:=.type "range",data:=.fields #[.int i t,.int j t',.int k t'']}}:=I1.kept (t':=s1.toks) λb o e=>ak _ e
    refine Kk (tk:=s1.toks) I2 _ (Dq _ i k n) ?_ q;have e1:i+((0:Nat):Int)*k=i:=by simp
    have e2:(n:Int)-((0:Nat):Int)=Builtin.Range.rangeSize i j k:=by rw[c3];simp
    show IsRangeIter _ _ (i+((0:Nat):Int)*k) ((n:Int)-((0:Nat):Int)) k;rw[e1,e2];exact aO _ rfl
end
theorem Cr{κ:Type}{bJ:List (κ×V)}{vs:List (κ×Value)}(h:KV bJ vs):∀{i:Nat}{k:κ}{v:V},bJ[i]?=some (k,v)->∃u,vs[i]?=some (k,u)/\RelV v u:=by
 unfold KV at h
 induction h with
 |nil=>intro i k v e;simp at e
 | @cons a b Qt Qs r t ih=>
  intro i k v e;cases i with
  |zero=>
   simp only[xn,Option.some.injEq]at e;subst e;refine⟨b.2,?_,r.2⟩;simp only[xn];exact gW some (Prod.ext r.1.symm rfl)
  |succ j=>
   simp only[xo]at e⊢;exact ih e
section
variable{X:Cx}{pins:List (Addr×Obj)}{σ:St}{H:Hp}{s:Shared}{d:Addr}{o:Obj}
theorem Inv.Q1{bJ:List (Key×V)}(I:Inv X pins σ H s)(h:H d=some (.iV o (.dK bJ))):
  (d==sysModules)=false/\s.heap.get? d=some o/\o.ExactDict/\∃(es:Array DictEntry)(ep:Nat)(vs:List (Key×Value)),o.data=.dict es ep/\es.size=bJ.length/\KV bJ vs/\s.heap.DictAt (d9 X.prog X.w) d vs ep:=by
 obtain⟨hd,z,hs,vs,kv,o',es,ep,ho,hx,E9,r⟩:=I.dy d _ h;rw[hd]at ho;cases ho;refine⟨hs,hd,hx,es,ep,vs,E9,?_,kv,o,es,hd,hx,E9,r⟩;have l1:=r.2.1.length;have l2:bJ.length=vs.length:=j8 kv;rw[bh]at l1;omega
end
def U7(d:Addr)(o:Obj)(bJ:List (Key×V)):It:=
 ⟨λi H=>H d=some (.iV o (.dK bJ))/\i<bJ.length,λi H x H'=>H'=H/\∃k,bJ[i]?=some (k,x),λi H=>H d=some (.iV o (.dK bJ))/\bJ.length<=i⟩
theorem Hr{o:Obj}{es Hm:Array DictEntry}{ep OQ:Nat}(h:o.data=.dict es ep)(h':o.data=.dict Hm OQ):Hm=es/\OQ=ep:=by
 rw[h]at h';cases h';exact⟨rfl,rfl⟩
section
variable{P:Program}{w:World}{K:c9}{tg:Expr}{d:Addr}{o:Obj}{es:Array DictEntry}{ep:Nat}
theorem HI{bJ:List (Key×V)}(it:Addr)(hod:o.data=.dict es ep):Turn P w K tg (U7 d o bJ) [it] it (λi h=>h.IsValIter it d i bJ.length ep) where
 mem:=by simp
 obj:=λi h st b hb=>by
  have e:b=it:=by simpa using hb
  subst e;obtain⟨oi,e,c,dd⟩:=st;exact⟨oi,e,λv z=>by rw[dd]at z;cases z⟩
 keep:=λi h h' st k=>st.at λoi e=>k it (by simp) oi e
 item:=by
  intro X hP hw hK hc i pins s σ H E I hf st hg;subst hP hw hK;obtain⟨hd,hi⟩:=hg;obtain⟨f0,f1,f2,f3,f4,f5⟩:=hf it (by simp);obtain⟨hs,UN,hx,Hm,OQ,vs,E9,hsz,kv,hm⟩:=I.Q1 hd;obtain⟨rfl,rfl⟩:=Hr hod E9;obtain⟨⟨k,v⟩,QR⟩:∃p,bJ[i]?=some p:=⟨bJ[i],ae hi⟩;obtain⟨u,hu,ru⟩:=Cr kv QR;have hl:bJ.length=vs.length:=j8 kv;rw[hl]at st;refine wpAny_pyNext_values_item st hm hu λh' tu sb=>?_
  have I1:Inv X pins σ H {s with heap:=h'}:=I.turned (t':=s.toks) (λb ob hb e=>(sb.2 b hb).trans e) f0 f1 f3 f4 f5
  obtain⟨oi,e,c,dd⟩:=id tu;refine⟨u,rfl,Hj (s:={s with heap:=h'}) e c dd (by decide) ⟨v,H,I1,ru,⟨rfl,k,QR⟩,?_,λb hb=>(hf b hb).1⟩⟩
  show h'.IsValIter it d (i+1) bJ.length _;rw[hl];exact tu
 done:=by
  intro X hP hw hK hc i pins s σ H E I hf st hg;subst hP hw hK;obtain⟨hd,hi⟩:=hg;obtain⟨f0,f1,f2,f3,f4,f5⟩:=hf it (by simp);obtain⟨hs,UN,hx,Hm,OQ,vs,E9,hsz,kv,hm⟩:=I.Q1 hd;obtain⟨rfl,rfl⟩:=Hr hod E9;have hl:bJ.length=vs.length:=j8 kv;rw[hl]at st;exact wpAny_pyNext_values_end (I.ok.hd hc) st hm (jF (by omega)) λh' eb=>⟨rfl,I.turned (t':=s.toks) (λb ob hb e=>eb b ob hb e) f0 f1 f3 f4 f5⟩
 self:=λA i s Q E st h=>wpAny_pyIter_valiter st h
end
def S3(td:TE):TI:=λσ H R=>td σ H λx H1=>∃d o bJ,x=.ref d/\H1 d=some (.iV o (.dK bJ))/\R (U7 d o bJ) H1
section
variable{X:Cx}{tg e:Expr}{td:TE}{apos jI:Pos}
theorem i7(he:PE X e td)(Ew:attributeBase e "values" X.env (eval e X.env)=eval e X.env:=by rfl)(Er:(apos.endLine==jI.line)=true:=by rfl):PI X tg (.Call (.Attribute e "values" apos) [] [] jI) (S3 td):=by
 intro pins s σ H R I h;refine wpAny_Call_method (T:="dict") (id:="dict.values") Ew rfl Er F.plainAttrs_dict F.slot_dict_values F.type_dict_values (eO (he pins s σ H _ I h) λu s1⟨x,H1,I1,rx,d,o,bJ,ex,hd,q⟩=>?_);subst ex;obtain rfl:u=Value.ref d:=rx;obtain⟨hs,UN,hx,es,ep,vs,E9,hsz,kv,hm⟩:=I1.Q1 hd;have hl:bJ.length=vs.length:=j8 kv;refine⟨hm.dictOf.typeIs,hm.dictOf.mapOf.noDict,?_⟩;have I2:Inv X pins σ H1 {s1 with heap:=s1.heap.push {cls:=.type "dict_values",data:=.fields #[.ref d]}}:=I1.kept (t':=s1.toks) λb ob q=>ak _ q
 have fin:wpAny (model X.prog X.w) X.A (pyIter (.ref s1.heap.objs.size)) (U5 X pins σ tg R) X.xe {s1 with heap:=s1.heap.push {cls:=.type "dict_values",data:=.fields #[.ref d]}}:=by
  refine wpAny_pyIter_values (d:=d) (knd:=d9 X.prog X.w) ⟨_,aO _ rfl,rfl,rfl⟩ (hm.push _) (Kk (tk:=s1.toks) I2 _ (HI _ E9) ⟨_,aO _ rfl,rfl,?_⟩ q);rw[hl]<;>rfl
 show wpAny _ _ (callWith jI (.builtin "dict.values") [.ref d] [] []) _ X.xe s1;exact method_meetsIn F.slot_dict_values F.entry_dict_values rfl (PySem.evalArgs_none ⟨rfl,hm.dictOf.typeIs,F.args_dict_values_1 _,_,meets_dict_values (d9 X.prog X.w) d hs,⟨vs,hm.dictOf⟩,fin⟩)
end
def XM(K:c9)(a:Addr):It:=
 ⟨λi H=>∃(xs:List V)(x:V),cG K H a xs/\xs[i]?=some x,λi H v H'=>∃T x,v=.ref T/\H T=none/\H'=upd H T (.tup [.int (i:Nat),x])/\∀xs,cG K H a xs->xs[i]?=some x,λi H=>∃xs:List V,cG K H a xs/\xs.length<=i⟩
theorem HK{P:Program}{w:World}{K:c9}{elts:List Expr}{kk:Nat}{uZ:Pos}(a e it:Addr):
  Turn P w K (.Tuple elts kk uZ) (XM K a) [e,it] e (λi h=>(∃old,IsEnum h e it ((i:Nat):Int) old)/\h.IsListIter it a i/\e≠it) where
 mem:=by simp
 obj:=λi h st b hb=>by
  obtain⟨⟨old,he⟩,⟨o,ho,hc,hd⟩,_⟩:=st;have e':b=e\/b=it:=by simpa using hb
  rcases e' with z|z
  ·rw[z];exact⟨_,he,λv q=>nomatch q⟩
  ·rw[z];exact⟨o,ho,λv q=>by rw[hd]at q;cases q⟩
 keep:=λi h h' st k=>let⟨⟨old,he⟩,hi,vE⟩:=st;⟨⟨old,k e (by simp) _ he⟩,hi.at λo q=>k it (by simp) o q,vE⟩
 item:=by
  intro X hP hw hK hc i pins s σ H E I hf st hg;subst hP hw hK;obtain⟨⟨old,he⟩,hit,vE⟩:=st;obtain⟨xs,x,hq,hx⟩:=hg;obtain⟨bU,rv,p,hz⟩:=I.list hq;obtain⟨u,hu,ru⟩:=rv.get hx;have Tu:e<s.heap.objs.size:=aM he;have Tr:it<s.heap.objs.size:=by obtain⟨_,q,_⟩:=hit;exact aM q
  refine wpAny_pyNext_enum_item he hit p.isList (x:=u) (by simpa using hu) vE λh' ho QS hT hsz hk=>?_
  refine⟨_,rfl,wpAny_letOwnedTupleGo_enum (s:={s with heap:=h',toks:=s.toks+1}) ho λON Lf sb=>?_⟩;have Lm:ON.get? s.heap.objs.size=some {cls:=.type "tuple",data:=.seq #[.int i s.toks,u]}:=(sb.2 _ (gx Tu)).trans hT
  have new:fz X.prog X.w (upd H s.heap.objs.size (.tup [.int (i:Nat),x])) ON s.heap.objs.size (.tup [.int (i:Nat),x]):=
   ⟨by show 2<=sizeLine;decide,[.int i s.toks,u],.cons ⟨_,rfl⟩ (.cons ru .nil),⟨_,Lm,rfl,_,rfl⟩⟩
  have I1:Inv X pins σ (upd H s.heap.objs.size (.tup [.int (i:Nat),x])) {s with heap:=ON,toks:=s.toks+1}:=
   I.uY (ch:=[e,it]) (λb ob hb q=>(sb.2 b (λz=>hb (by simp[z]))).trans (hk b ob (λz=>hb (by simp[z])) (λz=>hb (by simp[z])) q)) hf (ay _) new
  refine⟨.ref s.heap.objs.size,_,I1,rfl,⟨_,x,rfl,I.dy.fresh (ay _),rfl,λys hy=>by rw[I.pR hy hq];exact hx⟩,⟨⟨u,?_⟩,QS.at λo q=>(sb.2 it (fZ vE)).trans q,vE⟩,λb hb=>?_⟩
  ·have e1:((i+1:Nat):Int)=(i:Int)+1:=by omega
   rw[e1];exact Lf
  ·have xH:b<s.heap.objs.size:=by
    have e':b=e\/b=it:=(by simpa using hb);rcases e' with z|z
    ·rw[z];exact Tu
    ·rw[z];exact Tr
   rw[aG (a0 xH)];exact(hf b hb).1
 done:=by
  intro X hP hw hK hc i pins s σ H E I hf st hg;subst hP hw hK;obtain⟨⟨old,he⟩,hit,vE⟩:=st;obtain⟨xs,hq,hx⟩:=hg;obtain⟨bU,rv,p,hz⟩:=I.list hq;obtain⟨f0,f1,f2,f3,f4,f5⟩:=hf it (by simp);have hl:=rv.length;exact wpAny_pyNext_enum_end (I.ok.hd hc) he hit p.isList (by simp;omega) λh' eb=>⟨rfl,I.turned (t':=s.toks) (λb o hb q=>eb b o hb q) f0 f1 f3 f4 f5⟩
 self:=λA i s Q E st h=>let⟨⟨_,he⟩,_⟩:=st;wpAny_pyIter_enum he h
def S7(K:c9)(ta:TA):TI:=λσ H R=>ta σ H λvs H1=>∃a xs,vs=[.ref a]/\cG K H1 a xs/\R (XM K a) H1
theorem Nf{X:Cx}{e:Expr}{ta:TA}{p pos uZ:Pos}{elts:List Expr}{kk:Nat}(hg:Gl X "enumerate")(hm:X.mg "enumerate"=none)(ha:PA X [e] ta)(hs:starEach [e] X.env=[(false,eval e X.env)]:=by rfl):
  PI X (.Tuple elts kk uZ) (.Call (.Name "enumerate" p) [e] [] pos) (S7 X.K ta):=by
 intro pins s σ H R I h;refine Call_ (pT I hg hm boot_enumerate (eN (eO (ha pos pins s σ H _ I h) λus s1⟨vs,H1,I1,r1,q1⟩=>?_) hs rfl));obtain⟨a,xs,ex,hq,q⟩:=q1;subst ex;cases r1 with
 |cons r rr=>
  cases rr;cases r;obtain⟨bU,rv,p',hz⟩:=I1.list hq;refine call_enumerate_list p'.isList λh' he hit hsz hk=>wpAny_pyIter_enum he ?_
  have I2:Inv X pins σ H1 {s1 with heap:=h'}:=I1.kept (t':=s1.toks) hk;refine⟨s1.heap.objs.size+1,[s1.heap.objs.size+1,s1.heap.objs.size],_,_,H1,rfl,I2,HK a (s1.heap.objs.size+1) s1.heap.objs.size,⟨⟨.none,he⟩,hit,Nat.succ_ne_self _⟩,λb hb=>?_,q⟩;have e':b=s1.heap.objs.size+1\/b=s1.heap.objs.size:=by simpa using hb
  have hle:s1.heap.objs.size<=b:=by
   rcases e' with z|z
   ·rw[z];exact iJ _ _
   ·rw[z];exact ay _
  exact I1.Gi hle (I1.dy.fresh hle)
theorem Bl:bootBuiltins "zip"=some (.type "zip"):=by decide +kernel
def XJ(K:c9)(a b:Addr):It:=
 ⟨λi H=>∃(xs ys:List V)(x y:V),cG K H a xs/\cG K H b ys/\xs[i]?=some x/\ys[i]?=some y,
  λi H v H'=>∃T x y,v=.ref T/\H T=none/\H'=upd H T (.tup [x,y])/\(∀xs,cG K H a xs->xs[i]?=some x)/\∀ys,cG K H b ys->ys[i]?=some y,
  λi H=>∃xs ys:List V,cG K H a xs/\cG K H b ys/\(xs.length<=i\/ys.length<=i)⟩
theorem JU{P:Program}{w:World}{K:c9}{elts:List Expr}{kk:Nat}{uZ:Pos}{a b z TI TO i1 i2:Addr}(D:ZipApart z TI TO i1 i2 a b):
  Turn P w K (.Tuple elts kk uZ) (XJ K a b) [z,TI,TO,i1,i2] z (λi h=>IsZip h z TI TO .none/\IsPair h TI (.ref i1) (.ref i2)/\(∃x y,IsPair h TO x y)/\h.IsListIter i1 a i/\h.IsListIter i2 b i) where
 mem:=by simp
 obj:=λi h st c hc=>by
  obtain⟨hz,Ll,⟨x,y,Mi⟩,⟨o1,e1,_,d1⟩,⟨o2,e2,_,d2⟩⟩:=st;have e':c=z\/c=TI\/c=TO\/c=i1\/c=i2:=by simpa using hc
  rcases e' with q|q|q|q|q
  ·rw[q];exact⟨_,hz,λv q=>nomatch q⟩
  ·rw[q];exact⟨_,Ll,λv q=>nomatch q⟩
  ·rw[q];exact⟨_,Mi,λv q=>nomatch q⟩
  ·rw[q];exact⟨o1,e1,λv q=>by rw[d1]at q;cases q⟩
  ·rw[q];exact⟨o2,e2,λv q=>by rw[d2]at q;cases q⟩
 keep:=λi h h' st k=>by
  obtain⟨hz,Ll,⟨x,y,Mi⟩,h1,h2⟩:=st;exact⟨k z (by simp) _ hz,k TI (by simp) _ Ll,⟨x,y,k TO (by simp) _ Mi⟩,h1.at λo q=>k i1 (by simp) o q,h2.at λo q=>k i2 (by simp) o q⟩
 item:=by
  intro X hP hw hK hc i pins s σ H E I hf st hg;subst hP hw hK;obtain⟨hz,Ll,⟨x0,y0,Mi⟩,h1,h2⟩:=st;obtain⟨xs,ys,x,y,IL,IK,hx,hy⟩:=hg;obtain⟨bU,rv,p,_⟩:=I.list IL;obtain⟨mE,MZ,p2,_⟩:=I.list IK;obtain⟨u,hu,ru⟩:=rv.get hx;obtain⟨u2,V8,Vp⟩:=MZ.get hy;have hzl:z<s.heap.objs.size:=aM hz;refine wpAny_pyNext_zip_item D hz Ll Mi h1 h2 p.isList p2.isList (x:=u) (y:=u2) (by simpa using hu) (by simpa using V8) λh' z' TO' IX JJ hT hsz hk=>?_
  refine⟨_,rfl,wpAny_letOwnedTupleGo_zip (s:={s with heap:=h'}) z' λON z'' sb=>?_⟩;have Lm:ON.get? s.heap.objs.size=some {cls:=.type "tuple",data:=.seq #[u,u2]}:=(sb.2 _ (gx hzl)).trans hT
  have new:fz X.prog X.w (upd H s.heap.objs.size (.tup [x,y])) ON s.heap.objs.size (.tup [x,y]):=
   ⟨by show 2<=sizeLine;decide,[u,u2],.cons ru (.cons Vp .nil),⟨_,Lm,rfl,_,rfl⟩⟩
  have I1:Inv X pins σ (upd H s.heap.objs.size (.tup [x,y])) {s with heap:=ON}:=
   I.uY (t':=s.toks) (ch:=[z,TI,TO,i1,i2]) (λc o hb q=>(sb.2 c (λq'=>hb (by simp[q']))).trans (hk c o (λq'=>hb (by simp[q'])) (λq'=>hb (by simp[q'])) (λq'=>hb (by simp[q'])) (λq'=>hb (by simp[q'])) q)) hf (ay _) new
  refine⟨.ref s.heap.objs.size,_,I1,rfl,⟨_,x,y,rfl,I.dy.fresh (ay _),rfl,λl hl=>by rw[I.pR hl IL];exact hx,λl hl=>by rw[I.pR hl IK];exact hy⟩,⟨z'',?_,⟨u,u2,?_⟩,?_,?_⟩,λc Lg=>?_⟩
  ·exact(sb.2 _ D.TIz).trans (hk _ _ D.TIz D.TITO D.TIi1 D.TIi2 Ll)
  ·exact(sb.2 _ D.TOz).trans TO'
  ·exact IX.at λo q=>(sb.2 _ D.i1z).trans q
  ·exact JJ.at λo q=>(sb.2 _ D.i2z).trans q
  ·have lT:c<s.heap.objs.size:=by
    have e':c=z\/c=TI\/c=TO\/c=i1\/c=i2:=(by simpa using Lg);rcases e' with q|q|q|q|q
    ·rw[q];exact hzl
    ·rw[q];exact aM Ll
    ·rw[q];exact aM Mi
    ·rw[q];obtain⟨_,e1,_⟩:=h1;exact aM e1
    ·rw[q];obtain⟨_,e2,_⟩:=h2;exact aM e2
   rw[aG (a0 lT)];exact(hf c Lg).1
 done:=by
  intro X hP hw hK hc i pins s σ H E I hf st hg;subst hP hw hK;obtain⟨hz,Ll,⟨x0,y0,Mi⟩,h1,h2⟩:=st;obtain⟨xs,ys,IL,IK,QT⟩:=hg;obtain⟨bU,rv,p,_⟩:=I.list IL;obtain⟨mE,MZ,p2,_⟩:=I.list IK;have l1:=rv.length;have l2:=MZ.length;have he:bU.toArray[i]?=none\/mE.toArray[i]?=none:=by
   rcases QT with q|q
   ·exact .inl (by simp;omega)
   ·exact .inr (by simp;omega)
  exact wpAny_pyNext_zip_end (I.ok.hd hc) D hz Ll Mi h1 h2 p.isList p2.isList he λh' hk=>⟨rfl,I.GL (t':=s.toks) (ch:=[z,TI,TO,i1,i2]) (λc o hb q=>
   hk c o (λq'=>hb (by simp[q'])) (λq'=>hb (by simp[q'])) (λq'=>hb (by simp[q'])) (λq'=>hb (by simp[q'])) q) hf⟩
 self:=λA i s Q E st h=>C0 st.1 h
def V2(K:c9)(ta:TA):TI:=λσ H R=>ta σ H λvs H1=>∃a b xs ys,vs=[.ref a,.ref b]/\cG K H1 a xs/\cG K H1 b ys/\R (XJ K a b) H1
theorem P0{X:Cx}{e e2:Expr}{ta:TA}{p pos uZ:Pos}{elts:List Expr}{kk:Nat}(hg:Gl X "zip")(hm:X.mg "zip"=none)(ha:PA X [e,e2] ta)
  (hs:starEach [e,e2] X.env=(false,eval e X.env)::starEach [e2] X.env:=by rfl)(vC:(backTo pos (starEach [e2] X.env)).any (·.1)=false:=by rfl):
  PI X (.Tuple elts kk uZ) (.Call (.Name "zip" p) [e,e2] [] pos) (V2 X.K ta):=by
 intro pins s σ H R I h;refine Call_ (pT I hg hm Bl (eN (eO (ha pos pins s σ H _ I h) λus s1⟨vs,H1,I1,r1,q1⟩=>?_) hs vC));obtain⟨a,b,xs,ys,ex,IL,IK,q⟩:=q1;subst ex;cases r1 with
 |cons r rr=>
  cases rr with
  |cons r' rr=>
   cases rr;cases r;cases r';obtain⟨bU,rv,p1,_⟩:=I1.list IL;obtain⟨mE,MZ,p2,_⟩:=I1.list IK;have la:a<s1.heap.objs.size:=p1.lt;have lb:b<s1.heap.objs.size:=p2.lt;refine call_zip_2 p1.isList p2.isList λh' hz Ll Mi h1 h2 hsz hk=>C0 hz ?_
   have I2:Inv X pins σ H1 {s1 with heap:=h'}:=I1.kept (t':=s1.toks) hk;refine⟨s1.heap.objs.size+4,[s1.heap.objs.size+4,s1.heap.objs.size+2,s1.heap.objs.size+3,s1.heap.objs.size,s1.heap.objs.size+1],_,_,H1,rfl,I2,JU (PySem.W.ktu_apart s1.heap.objs.size a b la lb),⟨hz,Ll,⟨_,_,Mi⟩,h1,h2⟩,λc Lg=>?_,q⟩;have e':c=s1.heap.objs.size+4\/c=s1.heap.objs.size+2\/c=s1.heap.objs.size+3\/c=s1.heap.objs.size\/c=s1.heap.objs.size+1:=by simpa using Lg
   have hle:s1.heap.objs.size<=c:=by
    rcases e' with z|z|z|z|z
    ·rw[z];exact iJ _ _
    ·rw[z];exact iJ _ _
    ·rw[z];exact iJ _ _
    ·rw[z];exact ay _
    ·rw[z];exact iJ _ _
   exact I1.Gi hle (I1.dy.fresh hle)
def inClass(s:Stmt)(j:Nat):Stmt:=match s with
 | .ClassDef _ _ _ body _ _ _ _ _ _ _=>body.getD j (.Pass ⟨0,0,0,0⟩)
 |_=>.Pass ⟨0,0,0,0⟩
def mj(s:Stmt):Arguments:=match s with
 | .FunctionDef _ a _ _ _ _ _ _ _ _=>a
 |_=>{posonlyargs:=[],args:=[],vararg:=none,kwonlyargs:=[],kw_defaults:=[],kwarg:=none,defaults:=[]}
def iW(s:Stmt):List Stmt:=match s with
 | .FunctionDef _ _ b _ _ _ _ _ _ _=>b
 |_=>[]
def aL(s:Stmt):Scope:=match s with
 | .FunctionDef _ _ _ _ _ _ sc _ _ _=>sc
 |_=>{kind:=.function,names:=[],isGenerator:=false,isCoroutine:=false}
abbrev Bu:Mm:=λ_ _ _ _ _ _=>False
abbrev E0:XK:=λ_ _ _=>False
theorem pK{X:Cx}:Passes Bu X E0:=λ_ _ _ _ _ _ _ h=>h.elim
structure O2(K:c9)(x qual:Str)(st:Stmt)(f:Addr)(fd:FuncData):Prop where
 ex:∃(oc:Value)(od:Option Addr)(kV doc pm:Value)(an:Option Addr)(mq ct:Value)(G3:Array (Option Value)),
  fd=PySem.W.fnOf x qual (mj st) (iW st) (aL st) .none kV doc pm an mq ct/\K.lookup f=some ⟨oc,od,.func fd,G3⟩/\PySem.W.codeIn K mq qual=true
 kp:PySem.W.keepIn K (.ref f)=true
section
variable{P:Program}{w:World}{K:c9}{mg:jB}{base:Heap}
theorem O2.ok{x qual:Str}{st:Stmt}{f:Addr}{fd:FuncData}{N ps:List Str}{k:Nat}{sp:Sp}(F:O2 K x qual st f fd)(S:a9 N ps (aL st))(len:∀vs H Q E,sp vs H Q E->vs.length=ps.length)
  (p7:∀(mq:Value)(A:Around)(outer:List Env)(s:Shared)(H:Hp)(vs:List V)(Q:VK)(E:XK),gV k (A.deeper (envOfC qual (aL st) s.heap.objs.size f mq))->sp vs H Q E->
   ∃t,GB (zh Bu P w K mg base N qual (aL st) f mq A outer s H E).Ql (iW st) t/\t {nx:=λ_ H'=>Q .fL H',rt:=Q} (start N vs) H):lN P w K mg base Bu (k+1) f fd ps sp:=by
 obtain⟨oc,od,kV,doc,pm,an,mq,ct,G3,rfl,lk,Ga⟩:=F.ex;refine OP lk Ga S len λA outer s H vs Q E hr OF=>?_
 obtain⟨t,h,q⟩:=p7 mq A outer s H vs Q E hr OF;exact⟨t,h.Ql,q⟩
theorem O2.binds{x qual:Str}{st:Stmt}{f:Addr}{fd:FuncData}{ps:List Str}(F:O2 K x qual st f fd)
  (h:∀(kV doc pm:Value)(an:Option Addr)(mq ct:Value)(us:List Value),us.length=ps.length->bindArgs (PySem.W.fnOf x qual (mj st) (iW st) (aL st) .none kV doc pm an mq ct) ⟨us,[]⟩=pure (ps.zip us)):Binds K fd ps []:=by
 obtain⟨oc,od,kV,doc,pm,an,mq,ct,G3,rfl,lk,Ga⟩:=F.ex;exact .all (h kV doc pm an mq ct)
theorem CC{x qual:Str}{st:Stmt}{f:Addr}{oc:Value}{od an:Option Addr}{G3:Array (Option Value)}{kV doc pm mq ct:Value}(l:K.lookup f=some ⟨oc,od,.func (PySem.W.fnOf x qual (mj st) (iW st) (aL st) .none kV doc pm an mq ct),G3⟩)
  (c:PySem.W.codeIn K mq qual=true)(k:PySem.W.keepIn K (.ref f)=true):O2 K x qual st f (PySem.W.fnOf x qual (mj st) (iW st) (aL st) .none kV doc pm an mq ct):=⟨⟨oc,od,kV,doc,pm,an,mq,ct,G3,rfl,l,c⟩,k⟩
end
theorem ft{A:Around}{k:Nat}(hr:gV k A):A.units+1<cLine:=GI (Nat.add_le_add_left (by decide:1<=64) _) hr.units
theorem jL{n:Nat}(h:n<=1000):n<sizeLine:=GI h (by decide)
section
variable{X:Cx}
theorem pv(i:Nat){x:Str}{pos:Pos}(hN:X.N[i]?=some x:=by rfl)(hv:Rm X.env.scope x:=by first|exact Or.inl rfl|exact Or.inr (Or.inl rfl)|exact Or.inr (Or.inr rfl))(hd:(x==("__debug__":Str))=false:=by decide)
  (Ga:(x==("__classdict__":Str))=false:=by decide):PE X (.Name x pos) (JX i):=P4 hN hv hd Ga
theorem jU:jC X (.builtin "len") (λxs H Q=>∃a bJ,xs=[V.ref a]/\H a=some (.dK bJ)/\Q (.int bJ.length) H):=by
 intro pins s σ H xs us Q I r h;obtain⟨a,bJ,rfl,ha,q⟩:=h;obtain⟨u,rfl,ru⟩:=vals1 r;cases ru;exact T1 I (.inl ha) λt s' I'=>⟨.int bJ.length,H,I',⟨t,rfl⟩,q⟩
end
theorem iZ{A B:Prop}(h:B):if false=true then A else B:=by
 rw[aw aK];exact h
theorem gU{A B:Prop}(h:A):if true=true then A else B:=by
 rw[az rfl];exact h
def aS(H H':Hp):Prop:=∀b o,H b=some o->H' b=some o
theorem aS.refl(H:Hp):aS H H:=λ_ _ h=>h
theorem aS.trans{H H1 H2:Hp}(a:aS H H1)(b:aS H1 H2):aS H H2:=λc o h=>b c o (a c o h)
theorem aS.free{H H':Hp}(e:aS H H'){l:Addr}(h:H' l=Option.none):H l=Option.none:=by
 cases q:H l with
 |none=>rfl
 |some o=>
  rw[e l o q]at h;cases h
theorem aS.seq{K:c9}{H H':Hp}{a:Addr}{xs:List V}(e:aS H H')(h:cG K H a xs):cG K H' a xs:=by
 rcases h with(h|⟨o,h⟩)|h
 ·exact .inl (.inl (e _ _ h))
 ·exact .inl (.inr ⟨o,e _ _ h⟩)
 ·exact .inr h
section
variable{κ:Type} [DecidableEq κ]
theorem xB:∀{l:List κ}{k:κ},l.Nodup->¬k∈l->(l++ [k]).Nodup
 | [],k,_,_=>by simp
 |a::r,k,h,hk=>by
  obtain⟨h1,h2⟩:=bY.mp h;show(a::(r++ [k])).Nodup
  refine bY.mpr ⟨λm=>?_,xB h2 λm=>hk (aB.mpr (Or.inr m))⟩;rcases br.mp m with q|q
  ·exact h1 q
  ·exact hk (aB.mpr (Or.inl (aP.mp q).symm))
theorem Jc{p:κ×V}{r:List (κ×V)}{k:κ}(e:p.1=k):kL (p::r) k=kL r k:=by
 unfold kL;rw[dQ,aw (by simp[e])]
theorem Jd{p:κ×V}{r:List (κ×V)}{k:κ}(e:¬p.1=k):kL (p::r) k=p::kL r k:=by
 unfold kL;rw[dQ,az (by simp[e])]
end
theorem OB{α:Type}{l:List α}(hN:l.Nodup){i j:Nat}{x:α}(a:l[i]?=some x)(b:l[j]?=some x):i=j:=by
 obtain⟨h1,e1⟩:=aN.mp a;obtain⟨h2,e2⟩:=aN.mp b;exact(Mb hN).mp (e1.trans e2.symm)
theorem aS.made{H H1:Hp}{x dx C:Addr}(nx:H x=Option.none)(nd:H dx=Option.none)(k:∀b o,(upd (upd H dx (.own x)) x (.ins C dx [])) b=some o->b≠x->H1 b=some o):aS H H1:=λb o e=>
 k b o (by rw[aG (aR e nx),aG (aR e nd)];exact e) (aR e nx)
end L2
namespace L2
open PySem PySem.Spec PyProof.Rows
open PySem.W (WData Codec OpenSpec Well WellAll ReadsW ReadsAllW)
mutual
inductive Dw(K:c9)(H:Hp):V->WData->Prop
 |fL:Dw K H .fL .none
 |bl (b:Bool):Dw K H (.bl b) (.bool b)
 |int (i:Int):Dw K H (.int i) (.int i)
 |str (x:Str):Dw K H (.str x) (.str x)
 |EO (b:Array UInt8):Dw K H (.EO b) (.bytes b.toList)
 |lst {a:Addr} {xs:List V} {ds:List WData}:cG K H a xs->rS K H xs ds->Dw K H (.ref a) (.list ds)
 |tup {a:Addr} {xs:List V} {ds:List WData}:c8 K H a xs->rS K H xs ds->Dw K H (.ref a) (.tuple ds)
inductive rS(K:c9)(H:Hp):List V->List WData->Prop
 |nil:rS K H [] []
 |cons {v:V} {vs:List V} {d:WData} {ds:List WData}:Dw K H v d->rS K H vs ds->rS K H (v::vs) (d::ds)
end
theorem Hn{K:c9}{H:Hp}:∀ns:List Int,rS K H (ns.map V.int) (ns.map WData.int)
 | []=>.nil
 |n::r=>.cons (.int n) (Hn r)
theorem Hg{K:c9}{H:Hp}:∀(ns:List Int)(xs:List V),rS K H xs (ns.map WData.int)->xs=ns.map V.int
 | [],xs,h=>by
  cases h;rfl
 |n::r,xs,h=>by
  cases h with
  |cons h1 h2=>
   cases h1;rw[Hg r _ h2]<;>rfl
section
variable{P:Program}{w:World}{K:c9}{H:Hp}{h:Heap}{R:PySem.W.WRecords}{cl:Str->Option Addr}
theorem fM{a:Addr}{xs:List V}(dy:qI P w H h)(KX:K.In h)(q:cG K H a xs):∃(bU:List Value)(o:Obj)(n:Nat),Vals xs bU/\h.get? a=some o/\o.cls=.type "list"/\o.data=.seq bU.toArray n:=by
 rcases q with q|⟨o,bU,n,e,hc,_,hd,_,hv⟩
 ·obtain⟨_,bU,n,hv,e⟩:=(show fz P w H h a (.lst xs)from q.ok dy)
  exact⟨bU,_,n,hv,e,rfl,rfl⟩
 ·exact⟨bU.toList,o,n,hv,KX _ _ e,hc,by simp[hd]⟩
theorem Pu{a:Addr}{xs:List V}(dy:qI P w H h)(KX:K.In h)(q:c8 K H a xs):∃(bU:List Value)(o:Obj)(n:Nat),Vals xs bU/\h.get? a=some o/\o.cls=.type "tuple"/\o.data=.seq bU.toArray n:=by
 rcases q with q|⟨o,bU,n,e,hc,hd,_,hv⟩
 ·obtain⟨_,bU,hv,o,e,hc,n,hd⟩:=(show fz P w H h a (.tup xs)from q.ok dy)
  exact⟨bU,o,n,hv,e,hc,hd⟩
 ·exact⟨bU.toList,o,n,hv,KX _ _ e,hc,by simp[hd]⟩
mutual
theorem Dw.reads(dy:qI P w H h)(KX:K.In h):∀(d:WData)(v:V)(u:Value),Dw K H v d->RelV v u->∃as,ReadsW R cl h u d as
 | .none,_,_,x,r=>by
  cases x;cases r;exact⟨_,ReadsW.none⟩
 | .bool b,_,_,x,r=>by
  cases x;cases r;exact⟨_,ReadsW.bool b⟩
 | .int i,_,_,x,r=>by
  cases x;obtain⟨t,rfl⟩:=r;exact⟨_,ReadsW.int i t⟩
 | .str s,_,_,x,r=>by
  cases x;obtain⟨t,rfl⟩:=r;exact⟨_,ReadsW.str s t⟩
 | .bytes b,_,_,x,r=>by
  cases x;obtain⟨t,rfl⟩:=r;exact⟨_,ReadsW.bytes _ t⟩
 | .list ds,_,_,x,r=>by
  cases x with
  |lst hs ha=>
   cases r;obtain⟨bU,o,n,rv,ho,hc,hd⟩:=fM dy KX hs;obtain⟨as,hr⟩:=Dw.readsAll dy KX ds _ bU ha rv;exact⟨_,ReadsW.list ho hc hd hr⟩
 | .tuple ds,_,_,x,r=>by
  cases x with
  |tup hs ha=>
   cases r;obtain⟨bU,o,n,rv,ho,hc,hd⟩:=Pu dy KX hs;obtain⟨as,hr⟩:=Dw.readsAll dy KX ds _ bU ha rv;exact⟨_,ReadsW.tuple ho hc hd hr⟩
 | .float _,_,_,x,_=>by cases x
 | .dict _,_,_,x,_=>by cases x
 | .bytearray _,_,_,x,_=>by cases x
 | .set _,_,_,x,_=>by cases x
 | .frozenset _,_,_,x,_=>by cases x
 | .obj _ _,_,_,x,_=>by cases x
theorem Dw.readsAll(dy:qI P w H h)(KX:K.In h):∀(ds:List WData)(vs:List V)(us:List Value),rS K H vs ds->Vals vs us->∃as,ReadsAllW R cl h us ds as
 | [],_,_,x,r=>by
  cases x;cases r;exact⟨_,ReadsAllW.nil⟩
 |d::ds,_,_,x,r=>by
  cases x with
  |cons h1 h2=>
   cases r with
   |cons r1 r2=>
    obtain⟨as,q1⟩:=Dw.reads dy KX d _ _ h1 r1;obtain⟨bs,q2⟩:=Dw.readsAll dy KX ds _ _ h2 r2;exact⟨_,ReadsAllW.cons q1 q2⟩
end
end
mutual
def GW:WData->Bool
 | .none=>true
 | .bool _=>true
 | .int _=>true
 | .str _=>true
 | .bytes _=>true
 | .list xs=>wV xs
 | .tuple xs=>wV xs
 |_=>false
def wV:List WData->Bool
 | []=>true
 |x::r=>GW x&&wV r
end
theorem DN{α:Type}{f:α->WData}(h:∀a,GW (f a)=true):∀l:List α,wV (l.map f)=true
 | []=>rfl
 |x::r=>by
  show(GW (f x)&&wV (r.map f))=true;rw[h x,DN h r]<;>rfl
theorem pH:∀(c:Codec)(a:c.denote),GW (c.enc a)=true
 | .unit,_=>rfl
 | .bool,_=>rfl
 | .int _ _,_=>rfl
 | .nat _ _,_=>rfl
 | .u8,_=>rfl
 | .bytes _ _,_=>rfl
 | .text _ _ _ _,_=>rfl
 | .list _ _ c,a=>DN (λx=>pH c x) a
 | .pair c d,a=>by
  show(GW (c.enc a.1)&&(GW (d.enc a.2)&&true))=true;rw[pH c a.1,pH d a.2]<;>rfl
 | .triple c d e,a=>by
  show(GW (c.enc a.1)&&(GW (d.enc a.2.1)&&(GW (e.enc a.2.2)&&true)))=true;rw[pH c a.1,pH d a.2.1,pH e a.2.2]<;>rfl
 | .option c,none=>rfl
 | .option c,some x=>pH c x
theorem A1:∀(cs:List Codec)(a:Codec.denoteAll cs),wV (Codec.encAll cs a)=true
 | [],_=>rfl
 |c::cs,a=>by
  show(GW (c.enc a.1)&&wV (Codec.encAll cs a.2))=true;rw[pH c a.1,A1 cs a.2]<;>rfl
theorem rX:∀{xs:List WData}{d:WData},d∈xs->d.weight<=WData.weightAll xs
 | [],d,h=>absurd h (by simp)
 |x::r,d,h=>by
  show d.weight<=x.weight+1+WData.weightAll r;rcases aB.mp h with e|m
  ·rw[e]
   omega
  ·have z:=rX m
   omega
def toV:Value->V
 | .none=>.fL
 | .bool b=>.bl b
 | .int i _=>.int i
 | .str x _=>.str x
 | .bytes b _=>.EO b
 | .ref a=>.ref a
 |_=>.fL
def Jt(A:List Addr):Value->Prop
 | .none=>True
 | .bool _=>True
 | .int _ _=>True
 | .str _ _=>True
 | .bytes _ _=>True
 | .ref a=>a∈A
 |_=>False
theorem Jt.mono{A B:List Addr}(h:∀a∈A,a∈B):∀{u:Value},Jt A u->Jt B u:=λ{u}x=>by
 cases u with
 |ref a=>exact h a x
 |none=>trivial
 |bool b=>trivial
 |int i t=>trivial
 |str s t=>trivial
 |bytes b t=>trivial
 |_=>exact False.elim x
theorem Kf{A:List Addr}{u:Value}(x:Jt A u):RelV (toV u) u:=by
 cases u with
 |ref a=>rfl
 |none=>rfl
 |bool b=>rfl
 |int i t=>exact⟨t,rfl⟩
 |str s t=>exact⟨t,rfl⟩
 |bytes b t=>exact⟨t,rfl⟩
 |_=>exact False.elim x
theorem mL{A:List Addr}:∀{vs:List Value},(∀u∈vs,Jt A u)->Vals (vs.map toV) vs
 | [],_=>.nil
 |u::r,h=>.cons (Kf (h u (ax ..))) (mL λx hx=>h x (ao _ hx))
def rT(h:Heap)(A:List Addr)(a:Addr):Prop:=∃vs:List Value,vs.length<=sizeLine/\(∀u∈vs,Jt A u)/\
 (h.get? a=some {cls:=.type "list",data:=.seq vs.toArray}\/h.get? a=some {cls:=.type "tuple",data:=.seq vs.toArray})
theorem rT.mono{h:Heap}{A B:List Addr}{a:Addr}(k:∀a∈A,a∈B)(x:rT h A a):rT h B a:=by
 obtain⟨vs,h1,h2,h3⟩:=x;exact⟨vs,h1,λu hu=>(h2 u hu).mono k,h3⟩
theorem lU{P:Params}{h:Heap}:∀{vs:List Value}{ds:List WData},WellAll P h vs ds->vs.length=ds.length
 |_,_,.nil=>rfl
 |_,_,.cons _ b=>by
  show _+1=_+1;rw[lU b]
theorem AI{P:Params}{h:Heap}{v:Value}{ds:List WData}(x:Well P h v (.list ds)):∃(a:Addr)(vs:List Value),v=.ref a/\h.get? a=some {cls:=.type "list",data:=.seq vs.toArray}/\WellAll P h vs ds:=by
 cases x with
 |list ho jy=>exact⟨_,_,rfl,ho,jy⟩
theorem xO{P:Params}{h:Heap}{v:Value}{ds:List WData}(x:Well P h v (.tuple ds)):∃(a:Addr)(vs:List Value),v=.ref a/\h.get? a=some {cls:=.type "tuple",data:=.seq vs.toArray}/\WellAll P h vs ds:=by
 cases x with
 |tuple ho jy=>exact⟨_,_,rfl,ho,jy⟩
theorem AJ{P:Params}{h:Heap}{us:List Value}{d:WData}{ds:List WData}(x:WellAll P h us (d::ds)):∃(v:Value)(vs:List Value),us=v::vs/\Well P h v d/\WellAll P h vs ds:=by
 cases x with
 |cons a b=>exact⟨_,_,rfl,a,b⟩
theorem Hb{n:Nat}(h:n<=1048576):n<=sizeLine:=bf h (by decide)
section
variable{P:Params}{h:Heap}
mutual
theorem L3:∀(d:WData)(v:Value),Well P h v d->GW d=true->d.weight<=1048576->∃A:List Addr,Jt A v/\∀a∈A,rT h A a
 | .none,_,x,_,_=>by
  cases x;exact⟨[],trivial,λa m=>absurd m (by simp)⟩
 | .bool b,_,x,_,_=>by
  cases x;exact⟨[],trivial,λa m=>absurd m (by simp)⟩
 | .int i,_,x,_,_=>by
  cases x;exact⟨[],trivial,λa m=>absurd m (by simp)⟩
 | .str s,_,x,_,_=>by
  cases x;exact⟨[],trivial,λa m=>absurd m (by simp)⟩
 | .bytes b,_,x,_,_=>by
  cases x;exact⟨[],trivial,λa m=>absurd m (by simp)⟩
 | .list ds,_,x,p,z=>by
  obtain⟨a,vs,rfl,ho,jy⟩:=AI x;have z2:WData.weightAll ds<=1048576:=z;obtain⟨A,h1,h2⟩:=uM ds _ jy p λd hd=>bf (rX hd) z2
  have k:∀b∈A,b∈a::A:=λb hb=>ao _ hb
  refine⟨a::A,ax ..,λb hb=>?_⟩;rcases aB.mp hb with e|m
  ·rw[e]
   exact⟨vs,Hb (by rw[lU jy];exact bf (N9 ds) z2),λu hu=>(h1 u hu).mono k,.inl ho⟩
  ·exact(h2 b m).mono k
 | .tuple ds,_,x,p,z=>by
  obtain⟨a,vs,rfl,ho,jy⟩:=xO x;have z2:WData.weightAll ds<=1048576:=z;obtain⟨A,h1,h2⟩:=uM ds _ jy p λd hd=>bf (rX hd) z2
  have k:∀b∈A,b∈a::A:=λb hb=>ao _ hb
  refine⟨a::A,ax ..,λb hb=>?_⟩;rcases aB.mp hb with e|m
  ·rw[e]
   exact⟨vs,Hb (by rw[lU jy];exact bf (N9 ds) z2),λu hu=>(h1 u hu).mono k,.inr ho⟩
  ·exact(h2 b m).mono k
 | .float _,_,_,p,_=>Bool.noConfusion (show false=true from p)
 | .dict _,_,_,p,_=>Bool.noConfusion (show false=true from p)
 | .bytearray _,_,_,p,_=>Bool.noConfusion (show false=true from p)
 | .set _,_,_,p,_=>Bool.noConfusion (show false=true from p)
 | .frozenset _,_,_,p,_=>Bool.noConfusion (show false=true from p)
 | .obj _ _,_,_,p,_=>Bool.noConfusion (show false=true from p)
theorem uM:∀(ds:List WData)(vs:List Value),WellAll P h vs ds->wV ds=true->(∀d∈ds,d.weight<=1048576)->∃A:List Addr,(∀u∈vs,Jt A u)/\∀a∈A,rT h A a
 | [],_,x,_,_=>by
  cases x;exact⟨[],λu m=>absurd m (by simp),λa m=>absurd m (by simp)⟩
 |d::ds,_,x,p,z=>by
  obtain⟨v,vs,rfl,x1,x2⟩:=AJ x;have q:GW d=true/\wV ds=true:=Bool.and_eq_true_iff.mp p;obtain⟨A,a1,a2⟩:=L3 d v x1 q.1 (z d (ax ..));obtain⟨B,b1,b2⟩:=uM ds vs x2 q.2 λe he=>z e (ao _ he)
  have kA:∀b∈A,b∈A++B:=λb hb=>br.mpr (.inl hb)
  have kB:∀b∈B,b∈A++B:=λb hb=>br.mpr (.inr hb)
  refine⟨A++B,λu hu=>?_,λb hb=>?_⟩
  ·rcases aB.mp hu with e|m
   ·rw[e]
    exact a1.mono kA
   ·exact(b1 u m).mono kB
  ·rcases br.mp hb with m|m
   ·exact(a2 b m).mono kA
   ·exact(b2 b m).mono kB
end
end
def NH(o:Obj):Option HO:=match o.data with
 | .seq vs _=>if(o.cls==Value.type "list")=true then some (.iV o (.lst (vs.toList.map toV)))else some (.iV o (.tup (vs.toList.map toV)))
 |_=>none
def kU(K:c9)(h:Heap)(A:List Addr):Hp:=λb=>if b∈A then(if(K.lookup b).isNone=true then(h.get? b).bind NH else none)else none
theorem Ep(vs:List Value):NH {cls:=.type "list",data:=.seq vs.toArray}=some (.iV {cls:=.type "list",data:=.seq vs.toArray} (.lst (vs.map toV))):=by
 show(if(Value.type "list"==Value.type "list")=true then some (HO.iV {cls:=.type "list",data:=.seq vs.toArray} (.lst (vs.toArray.toList.map toV)))else some (HO.iV {cls:=.type "list",data:=.seq vs.toArray} (.tup (vs.toArray.toList.map toV))))=_;rw[az (beq_self_eq_true _)]
theorem Eo(vs:List Value):NH {cls:=.type "tuple",data:=.seq vs.toArray}=some (.iV {cls:=.type "tuple",data:=.seq vs.toArray} (.tup (vs.map toV))):=by
 show(if(Value.type "tuple"==Value.type "list")=true then some (HO.iV {cls:=.type "tuple",data:=.seq vs.toArray} (.lst (vs.toArray.toList.map toV)))else some (HO.iV {cls:=.type "tuple",data:=.seq vs.toArray} (.tup (vs.toArray.toList.map toV))))=_;rw[aw (by decide)]
section
variable{P:Program}{w:World}{K:c9}{h:Heap}{A:List Addr}
theorem xJ{b:Addr}{o:Obj}(hb:b∈A)(hk:K.lookup b=none)(e:h.get? b=some o):kU K h A b=NH o:=by
 unfold kU;rw[az hb,hk,az (show(none:Option Obj).isNone=true from rfl),e]<;>rfl
theorem Nr{b:Addr}{u:HO}(q:kU K h A b=some u):b∈A/\K.lookup b=none:=by
 unfold kU at q
 by_cases hb:b∈A
 ·rw[az hb]at q
  cases hk:K.lookup b with
  |none=>exact⟨hb,rfl⟩
  |some o=>
   rw[hk,aw (by simp)]at q;cases q
 ·rw[aw hb]at q
  cases q
theorem qB(ar:∀a∈A,rT h A a){b:Addr}{u:HO}(q:kU K h A b=some u):K.lookup b=none/\∃vs:List Value,vs.length<=sizeLine/\(∀u∈vs,Jt A u)/\
  ((h.get? b=some {cls:=.type "list",data:=.seq vs.toArray}/\u=.iV {cls:=.type "list",data:=.seq vs.toArray} (.lst (vs.map toV)))\/
   (h.get? b=some {cls:=.type "tuple",data:=.seq vs.toArray}/\u=.iV {cls:=.type "tuple",data:=.seq vs.toArray} (.tup (vs.map toV)))):=by
 obtain⟨hb,hk⟩:=Nr q;obtain⟨vs,h1,h2,h3⟩:=ar b hb;refine⟨hk,vs,h1,h2,?_⟩;rcases h3 with e|e
 ·rw[xJ hb hk e,Ep]at q
  exact .inl ⟨e,(bw q).symm⟩
 ·rw[xJ hb hk e,Eo]at q
  exact .inr ⟨e,(bw q).symm⟩
theorem xt{c c':Value}{vs us:List Value}(e:(some {cls:=c,data:=.seq vs.toArray}:Option Obj)=some {cls:=c',data:=.seq us.toArray}):c=c'/\vs=us:=by
 have e1:=bw e;have e2:c=c':=gW Obj.cls e1;have e3:Data.seq vs.toArray=Data.seq us.toArray:=gW Obj.data e1;injection e3 with e4
 refine⟨e2,?_⟩;have e5:=gW Array.toList e4;simpa using e5
theorem Xo(KX:K.In h)(ar:∀a∈A,rT h A a){a:Addr}{vs:List Value}(ha:a∈A)(e:h.get? a=some {cls:=.type "list",data:=.seq vs.toArray}):(∀u∈vs,Jt A u)/\cG K (kU K h A) a (vs.map toV):=by
 obtain⟨us,h1,h2,h3⟩:=ar a ha;have hu:us=vs:=by
  rcases h3 with q|q
  ·rw[e]at q
   exact(xt q).2.symm
  ·rw[e]at q
   exact absurd (Jy (xt q).1) (by decide)
 subst hu;refine⟨h2,?_⟩;cases hk:K.lookup a with
 |none=>exact .inl (.inr ⟨_,by rw[xJ ha hk e,Ep]⟩)
 |some o=>
  have e2:=KX a o hk;rw[e]at e2;obtain rfl:=bw e2;exact .inr ⟨_,us.toArray,_,hk,rfl,rfl,rfl,by rw[aU];exact h1,by simpa using mL h2⟩
theorem Xn(KX:K.In h)(ar:∀a∈A,rT h A a){a:Addr}{vs:List Value}(ha:a∈A)(e:h.get? a=some {cls:=.type "tuple",data:=.seq vs.toArray}):(∀u∈vs,Jt A u)/\c8 K (kU K h A) a (vs.map toV):=by
 obtain⟨us,h1,h2,h3⟩:=ar a ha;have hu:us=vs:=by
  rcases h3 with q|q
  ·rw[e]at q
   exact absurd (Jy (xt q).1) (by decide)
  ·rw[e]at q
   exact(xt q).2.symm
 subst hu;refine⟨h2,?_⟩;cases hk:K.lookup a with
 |none=>exact .inl (.inr ⟨_,by rw[xJ ha hk e,Eo]⟩)
 |some o=>
  have e2:=KX a o hk;rw[e]at e2;obtain rfl:=bw e2;exact .inr ⟨_,us.toArray,_,hk,rfl,rfl,by rw[aU];exact h1,by simpa using mL h2⟩
mutual
theorem Q8{Pm:Params}(KX:K.In h)(ar:∀a∈A,rT h A a):∀(d:WData)(v:Value),Well Pm h v d->GW d=true->Jt A v->Dw K (kU K h A) (toV v) d
 | .none,_,x,_,_=>by
  cases x;exact .fL
 | .bool b,_,x,_,_=>by
  cases x;exact .bl b
 | .int i,_,x,_,_=>by
  cases x;exact .int i
 | .str s,_,x,_,_=>by
  cases x;exact .str s
 | .bytes b,_,x,_,_=>by
  cases x;have z:=Dw.EO (K:=K) (H:=kU K h A) b.toArray;exact z
 | .list ds,_,x,p,hu=>by
  obtain⟨a,vs,rfl,ho,jy⟩:=AI x;obtain⟨h2,hs⟩:=Xo KX ar hu ho;exact .lst hs (CF KX ar ds _ jy p h2)
 | .tuple ds,_,x,p,hu=>by
  obtain⟨a,vs,rfl,ho,jy⟩:=xO x;obtain⟨h2,hs⟩:=Xn KX ar hu ho;exact .tup hs (CF KX ar ds _ jy p h2)
 | .float _,_,_,p,_=>Bool.noConfusion (show false=true from p)
 | .dict _,_,_,p,_=>Bool.noConfusion (show false=true from p)
 | .bytearray _,_,_,p,_=>Bool.noConfusion (show false=true from p)
 | .set _,_,_,p,_=>Bool.noConfusion (show false=true from p)
 | .frozenset _,_,_,p,_=>Bool.noConfusion (show false=true from p)
 | .obj _ _,_,_,p,_=>Bool.noConfusion (show false=true from p)
theorem CF{Pm:Params}(KX:K.In h)(ar:∀a∈A,rT h A a):∀(ds:List WData)(vs:List Value),WellAll Pm h vs ds->wV ds=true->(∀u∈vs,Jt A u)->rS K (kU K h A) (vs.map toV) ds
 | [],_,x,_,_=>by
  cases x;exact .nil
 |d::ds,_,x,p,hu=>by
  obtain⟨v,vs,rfl,x1,x2⟩:=AJ x;have q:GW d=true/\wV ds=true:=Bool.and_eq_true_iff.mp p;exact .cons (Q8 KX ar d v x1 q.1 (hu _ (ax ..))) (CF KX ar ds vs x2 q.2 λu m=>hu u (ao _ m))
end
end
theorem yR{ds:List WData}(h:WData.layableAll ds=true):∀d∈ds,d.weight<=1048576:=λd hd=>
 (PySem.W.layableW_iff.mp (bE.mp h d hd)).2.2
end L2
namespace Pr
open PySem PySem.Spec PyProof.Rows L2
section
open PySem.SeqAt
open PySem.AutoSeq1 (wpAny_loadPart')
open PySem.MeetsSeq PySem.MeetsSeq2 PySem.MeetsSeq3
def lexLe:List Int->List Int->Bool
 | [],[]=>true
 | [],_::_=>true
 |_::_,[]=>false
 |x::xs,y::ys=>if x=y then lexLe xs ys else decide (x<=y)
theorem Ec:∀ns ms:List Int,lexLe ns ms=!HT.lexLt ms ns
 | [],[]=>rfl
 | [],_::_=>rfl
 |_::_,[]=>rfl
 |x::xs,y::ys=>by
  show(if x=y then lexLe xs ys else decide (x<=y))=!(if y=x then HT.lexLt ys xs else decide (y<x))
  by_cases h:x=y
  ·rw[az h,az h.symm,Ec xs ys]
  ·rw[aw h,aw (fZ h)]
   rw[<-decide_not];exact dP.mpr (by omega)
theorem Pa(l b:Addr)(items dB:Array Value)(n n2:Nat)(dd LD:Option Addr)(sl Kb:Array (Option Value))(ns ms:List Int)(hi:IntsAre items.toList ns)(hj:IntsAre dB.toList ms):
  Meets (Builtin.«tuple.__le__» ⟨[.ref l,.ref b],[]⟩)
   (λ_ R s=>s.heap.get? l=some {cls:=.type "tuple",dict:=dd,data:=.seq items n,slots:=sl}/\s.heap.get? b=some {cls:=.type "tuple",dict:=LD,data:=.seq dB n2,slots:=Kb}/\
    R (.ok (.ret (.bool (lexLe ns ms)))) s):=
 .of_wp λprog w A R s h=>by
  obtain⟨hp,g,d,tk,os⟩:=s;obtain⟨hl,hb,h⟩:=h;have f2:=AH;have z1:items.size=ns.length:=by rw[<-hi.length];simp
  have z2:dB.size=ms.length:=by rw[<-hj.length];simp
  wp_walk using iE hl,iE hb,je _ (λrest b s'=>b.1=none/\s'=⟨hp,g,d,tk,os⟩/\∃(vs ws:List Value)(jf A6:List Int),rest=vs.zip ws/\
   IntsAre vs jf/\IntsAre ws A6/\jf.length+dB.size=A6.length+items.size/\R (.ok (.ret (.bool (lexLe jf A6)))) ⟨hp,g,d,tk,os⟩) _
  case turn=>
   rintro⟨y,x⟩ rest b s' ⟨xH,rfl,vs,ws,jf,A6,hz,K6,E7,hlen,hR⟩;cases K6 with
   |nil=>rw[JA]at hz;cases hz
   |cons a t K5=>
    cases E7 with
    |nil=>rw[GJ]at hz;cases hz
    |cons c u K4=>
     rw[dH]at hz;injection hz with S9 En
     injection S9 with hy hx
     subst hy hx;rw[show lexLe (a::_) (c::_)=(if a=c then lexLe _ _ else decide (a<=c))from rfl]at hR;simp only[aq]at hlen;obtain⟨e,he,Et⟩:=HT.zb A.in1 ⟨hp,g,d,tk,os⟩ a t c u;refine aa (he prog w _ _ ?_);cases e with
     |true=>
      rw[az (Et.mp rfl)]at hR
      wp_walk
      exact⟨rfl,rfl,_,_,_,_,En,K5,K4,by omega,hR⟩
     |false=>
      rw[aw (λq=>absurd (Et.mpr q) aK)]at hR;have Tf:∀(E:fw)(Q:fw),Q (.bool (decide (a<=c))) ⟨hp,g,d,tk,os⟩->wpAny (model prog w) A.in1 (richCompare .LtE (.int a t) (.int c u)) Q E ⟨hp,g,d,tk,os⟩:=λE Q q=>(PyProof.Rows.le_int q:wpAny (model prog w) A.in1 (compareOp .LtE (.int a t) (.int c u)) Q E ⟨hp,g,d,tk,os⟩)
      wp_walk using Tf
      exact⟨_,rfl,by simpa using hR⟩
  case fin=>
   rintro⟨b1,b2⟩ s' ⟨xH,rfl,vs,ws,jf,A6,hz,K6,E7,hlen,hR⟩;simp only at xH;subst xH;have hv:lexLe jf A6=decide (items.size<=dB.size):=by
    cases K6 with
    |nil=>
     cases E7 with
     |nil=>
      simp only[bR]at hlen;exact(aJ (by omega)).symm
     |cons c u hw=>
      simp only[bR,aq]at hlen;exact(aJ (by omega)).symm
    |cons a t hv=>
     cases E7 with
     |nil=>
      simp only[bR,aq]at hlen;exact(aD (by omega)).symm
     |cons c u hw=>
      rw[dH]at hz;cases hz
   rw[hv]at hR
   wp_walk
   exact⟨_,rfl,by simpa[Builtin.Tuple.tupleCompareSizes]using hR⟩
  case h=>
   exact⟨rfl,rfl,items.toList,dB.toList,ns,ms,rfl,hi,hj,by omega,h⟩
theorem F3{prog:Program}{w:World}{A:Around}{E:fw}{s:Shared}{l b:Addr}{items dB:Array Value}{ns ms:List Int}{Q:fw}(hl:IsTup s.heap l items)(hb:IsTup s.heap b dB)(hi:IntsAre items.toList ns)(hj:IntsAre dB.toList ms)
  (hu:A.units<cLine)(h:Q (.bool (lexLe ns ms)) s):wpAny (model prog w) A (compareOp .LtE (.ref l) (.ref b)) Q E s:=by
 obtain⟨⟨cls,dd,data,sl⟩,ho,hc,n,hd⟩:=id hl;obtain⟨⟨T4,LD,data2,Kb⟩,Md,IU,n2,hd2⟩:=id hb;simp only at hc hd IU hd2;subst hc hd IU hd2;exact EZ (op:=.LtE) ⟨_,ho,rfl⟩ ⟨_,Md,rfl⟩ PySem.F.slot_tuple_le PySem.F.entry_tuple_le (PySem.F.args_tuple_le_2 _ _) (Pa l b items dB n n2 dd LD sl Kb ns ms hi hj)
  ⟨ho,Md,show Value.bool (lexLe ns ms)≠Value.notImplemented/\Q (.bool (lexLe ns ms)) s from⟨(λx=>nomatch x),h⟩⟩ hu
theorem Qg{X:Cx}(hu:X.A.units<cLine):oX X (compareOp .LtE) (λx y H Q=>∃a b ns ms,x=.ref a/\y=.ref b/\c8 X.K H a (ns.map V.int)/\c8 X.K H b (ms.map V.int)/\Q (.bl (!HT.lexLt ms ns)) H):=by
 intro pins s σ H x y v u Q I rx ry h;obtain⟨a,b,ns,ms,rfl,rfl,ha,hb,q⟩:=h;cases rx;cases ry;obtain⟨bU,r1,p1,_⟩:=I.tuple ha;obtain⟨mE,r2,p2,_⟩:=I.tuple hb;have i1:IntsAre bU.toArray.toList ns:=intsAre_of r1;have i2:IntsAre mE.toArray.toList ms:=intsAre_of r2;rw[<-Ec]at q;exact F3 p1 p2 i1 i2 hu ⟨.bl (lexLe ns ms),H,I,rfl,q⟩
def oN:List Int->List Int->Bool
 | [],[]=>false
 | [],_::_=>false
 |_::_,[]=>true
 |x::xs,y::ys=>if x=y then oN xs ys else decide (y<x)
theorem Ed:∀ns ms:List Int,oN ns ms=HT.lexLt ms ns
 | [],[]=>rfl
 | [],_::_=>rfl
 |_::_,[]=>rfl
 |x::xs,y::ys=>by
  show(if x=y then oN xs ys else decide (y<x))=(if y=x then HT.lexLt ys xs else decide (y<x))
  by_cases h:x=y
  ·rw[az h,az h.symm,Ed xs ys]
  ·rw[aw h,aw (fZ h)]
theorem Pc(l b:Addr)(items dB:Array Value)(n n2:Nat)(dd LD:Option Addr)(sl Kb:Array (Option Value))(ns ms:List Int)(hi:IntsAre items.toList ns)(hj:IntsAre dB.toList ms):
  Meets (Builtin.«tuple.__gt__» ⟨[.ref l,.ref b],[]⟩)
   (λ_ R s=>s.heap.get? l=some {cls:=.type "tuple",dict:=dd,data:=.seq items n,slots:=sl}/\s.heap.get? b=some {cls:=.type "tuple",dict:=LD,data:=.seq dB n2,slots:=Kb}/\
    R (.ok (.ret (.bool (oN ns ms)))) s):=
 .of_wp λprog w A R s h=>by
  obtain⟨hp,g,d,tk,os⟩:=s;obtain⟨hl,hb,h⟩:=h;have f2:=AH;have z1:items.size=ns.length:=by rw[<-hi.length];simp
  have z2:dB.size=ms.length:=by rw[<-hj.length];simp
  wp_walk using iE hl,iE hb,je _ (λrest b s'=>b.1=none/\s'=⟨hp,g,d,tk,os⟩/\∃(vs ws:List Value)(jf A6:List Int),rest=vs.zip ws/\
   IntsAre vs jf/\IntsAre ws A6/\jf.length+dB.size=A6.length+items.size/\R (.ok (.ret (.bool (oN jf A6)))) ⟨hp,g,d,tk,os⟩) _
  case turn=>
   rintro⟨y,x⟩ rest b s' ⟨xH,rfl,vs,ws,jf,A6,hz,K6,E7,hlen,hR⟩;cases K6 with
   |nil=>rw[JA]at hz;cases hz
   |cons a t K5=>
    cases E7 with
    |nil=>rw[GJ]at hz;cases hz
    |cons c u K4=>
     rw[dH]at hz;injection hz with S9 En
     injection S9 with hy hx
     subst hy hx;rw[show oN (a::_) (c::_)=(if a=c then oN _ _ else decide (c<a))from rfl]at hR;simp only[aq]at hlen;obtain⟨e,he,Et⟩:=HT.zb A.in1 ⟨hp,g,d,tk,os⟩ a t c u;refine aa (he prog w _ _ ?_);cases e with
     |true=>
      rw[az (Et.mp rfl)]at hR
      wp_walk
      exact⟨rfl,rfl,_,_,_,_,En,K5,K4,by omega,hR⟩
     |false=>
      rw[aw (λq=>absurd (Et.mpr q) aK)]at hR;have Tf:∀(E:fw)(Q:fw),Q (.bool (decide (c<a))) ⟨hp,g,d,tk,os⟩->wpAny (model prog w) A.in1 (richCompare .Gt (.int a t) (.int c u)) Q E ⟨hp,g,d,tk,os⟩:=λE Q q=>(PyProof.Rows.gt_int q:wpAny (model prog w) A.in1 (compareOp .Gt (.int a t) (.int c u)) Q E ⟨hp,g,d,tk,os⟩)
      wp_walk using Tf
      exact⟨_,rfl,by simpa using hR⟩
  case fin=>
   rintro⟨b1,b2⟩ s' ⟨xH,rfl,vs,ws,jf,A6,hz,K6,E7,hlen,hR⟩;simp only at xH;subst xH;have hv:oN jf A6=decide (dB.size<items.size):=by
    cases K6 with
    |nil=>
     cases E7 with
     |nil=>
      simp only[bR]at hlen;exact(aD (by omega)).symm
     |cons c u hw=>
      simp only[bR,aq]at hlen;exact(aD (by omega)).symm
    |cons a t hv=>
     cases E7 with
     |nil=>
      simp only[bR,aq]at hlen;exact(aJ (by omega)).symm
     |cons c u hw=>
      rw[dH]at hz;cases hz
   rw[hv]at hR
   wp_walk
   exact⟨_,rfl,by simpa[Builtin.Tuple.tupleCompareSizes]using hR⟩
  case h=>
   exact⟨rfl,rfl,items.toList,dB.toList,ns,ms,rfl,hi,hj,by omega,h⟩
theorem Ge{prog:Program}{w:World}{A:Around}{E:fw}{s:Shared}{l b:Addr}{items dB:Array Value}{ns ms:List Int}{Q:fw}(hl:IsTup s.heap l items)(hb:IsTup s.heap b dB)(hi:IntsAre items.toList ns)(hj:IntsAre dB.toList ms)
  (hu:A.units<cLine)(h:Q (.bool (oN ns ms)) s):wpAny (model prog w) A (compareOp .Gt (.ref l) (.ref b)) Q E s:=by
 obtain⟨⟨cls,dd,data,sl⟩,ho,hc,n,hd⟩:=id hl;obtain⟨⟨T4,LD,data2,Kb⟩,Md,IU,n2,hd2⟩:=id hb;simp only at hc hd IU hd2;subst hc hd IU hd2;exact EZ (op:=.Gt) ⟨_,ho,rfl⟩ ⟨_,Md,rfl⟩ PySem.F.slot_tuple_gt PySem.F.entry_tuple_gt (PySem.F.args_tuple_gt_2 _ _) (Pc l b items dB n n2 dd LD sl Kb ns ms hi hj)
  ⟨ho,Md,show Value.bool (oN ns ms)≠Value.notImplemented/\Q (.bool (oN ns ms)) s from⟨(λx=>nomatch x),h⟩⟩ hu
theorem Qh{X:Cx}(hu:X.A.units<cLine):oX X (compareOp .Gt) (λx y H Q=>∃a b ns ms,x=.ref a/\y=.ref b/\c8 X.K H a (ns.map V.int)/\c8 X.K H b (ms.map V.int)/\Q (.bl (HT.lexLt ms ns)) H):=by
 intro pins s σ H x y v u Q I rx ry h;obtain⟨a,b,ns,ms,rfl,rfl,ha,hb,q⟩:=h;cases rx;cases ry;obtain⟨bU,r1,p1,_⟩:=I.tuple ha;obtain⟨mE,r2,p2,_⟩:=I.tuple hb;have i1:IntsAre bU.toArray.toList ns:=intsAre_of r1;have i2:IntsAre mE.toArray.toList ms:=intsAre_of r2;rw[<-Ed]at q;exact Ge p1 p2 i1 i2 hu ⟨.bl (oN ns ms),H,I,rfl,q⟩
end
def top(i:Nat):Stmt:=PySem.Challenge.pw_prioritybook_s01_answers.main.body.getD i (.Pass ⟨0,0,0,0⟩)
abbrev t9:Stmt:=inClass (top 1) 0
abbrev wC:Stmt:=inClass (top 2) 0
abbrev wD:Stmt:=inClass (top 3) 0
abbrev ua:Stmt:=inClass (top 3) 1
abbrev rj:Stmt:=inClass (top 3) 2
abbrev kD:Stmt:=top 4
abbrev nI:Stmt:=top 7
abbrev lF:Stmt:=top 8
abbrev sj:Stmt:=top 9
abbrev j0:Stmt:=top 10
abbrev pA:Stmt:=top 11
abbrev DE:Stmt:=top 12
abbrev px:Stmt:=top 16
abbrev pj:Stmt:=top 17
abbrev AX:Stmt:=top 18
abbrev AV:Stmt:=top 19
abbrev wA:Stmt:=top 20
abbrev tS:Stmt:=top 21
abbrev mQ:Stmt:=top 29
abbrev yi:Stmt:=top 30
abbrev jl:Stmt:=top 31
abbrev oI:Stmt:=top 32
abbrev i5:Stmt:=top 33
abbrev yj:Stmt:=top 34
abbrev j1:Stmt:=top 35
abbrev wu:Stmt:=top 36
abbrev wy:Stmt:=top 37
abbrev AW:Stmt:=top 38
abbrev DF:Stmt:=top 39
abbrev ph:Stmt:=top 40
abbrev kI:Stmt:=top 41
abbrev t8:Stmt:=top 43
abbrev wz:Stmt:=top 44
abbrev nH:Stmt:=top 45
abbrev nJ:Stmt:=top 46
abbrev wt:Stmt:=top 48
abbrev rh:Stmt:=top 49
abbrev mR:Stmt:=top 59
abbrev yg:Stmt:=top 60
abbrev wo:Stmt:=top 61
abbrev yf:Stmt:=top 62
abbrev tU:Stmt:=top 63
abbrev kO:Stmt:=top 64
abbrev rb:Stmt:=top 65
abbrev rf:Stmt:=top 66
abbrev tW:Stmt:=top 67
abbrev wm:Stmt:=top 68
abbrev tV:Stmt:=top 69
abbrev nG:Stmt:=top 70
abbrev pq:Stmt:=top 71
abbrev tT:Stmt:=top 72
abbrev rg:Stmt:=top 73
abbrev wk:Stmt:=top 74
abbrev Om:Stmt:=top 75
abbrev wq:Stmt:=top 81
abbrev yh:Stmt:=top 82
abbrev wB:Stmt:=top 83
abbrev t7:Stmt:=top 84
abbrev oH:Stmt:=top 85
abbrev tX:Stmt:=top 86
abbrev tY:Stmt:=top 87
abbrev pz:Stmt:=top 88
abbrev iX:Stmt:=top 89
abbrev mP:Stmt:=top 90
abbrev oG:Stmt:=top 91
abbrev tZ:Stmt:=top 92
abbrev Kd:Stmt:=top 93
abbrev yk:Stmt:=top 97
abbrev DG:Stmt:=top 98
abbrev AY:Stmt:=top 99
structure FA(K:c9)(mg:jB)(x:Str)(st:Stmt)(ps:List Str)where
 f:Addr
 fd:FuncData
 F:O2 K x x st f fd
 mg:mg x=some (.ref f)
 b:Binds K fd ps []
theorem FA.ok{P:Program}{w:World}{K:c9}{mg:jB}{base:Heap}{x:Str}{st:Stmt}{N ps:List Str}{k:Nat}{sp:Sp}(A:FA K mg x st ps)(S:a9 N ps (aL st))
  (p7:∀{mq:Value}{A':Around}{outer:List Env}{s:Shared}(H:Hp)(vs:List V)(Q:VK)(E:XK),gV k (A'.deeper (envOfC x (aL st) s.heap.objs.size A.f mq))->sp vs H Q E->
   ∃t,GB (zh Bu P w K mg base N x (aL st) A.f mq A' outer s H E).Ql (iW st) t/\t {nx:=λ_ H'=>Q .fL H',rt:=Q} (L2.start N vs) H)
  (len:∀vs H Q E,sp vs H Q E->vs.length=ps.length:=by intro _ _ _ _ h;(repeat obtain⟨_,h⟩:=h);subst_vars;rfl):lN P w K mg base Bu (k+1) A.f A.fd ps sp:=
 A.F.ok S len λ_ _ _ _ H vs Q E hr h=>p7 H vs Q E hr h
abbrev Ok(P:Program)(w:World){K:c9}{mg:jB}(base:Heap){x:Str}{st:Stmt}{ps:List Str}(k:Nat)(A:FA K mg x st ps)(sp:Sp):Prop:=lN P w K mg base Bu k A.f A.fd ps sp
theorem pc{X:Cx}{x:Str}{st:Stmt}{ps:List Str}{k j:Nat}{sp:Sp}{e:Expr}{es:List Expr}{t:TA}{p pos:Pos}(A:FA X.K X.mg x st ps)(F:lN X.prog X.w X.K X.mg X.base Bu j A.f A.fd ps sp)(hr:gV k X.A)(ha:PA X (e::es) t)
  (hg:Gl X x:=by exact rfl)(hj:j<=k:=by decide)(IT:(x==("__debug__":Str))=false:=by decide)(he:starEach (e::es) X.env=(false,eval e X.env)::starEach es X.env:=by rfl)(vC:(backTo pos (starEach es X.env)).any (·.1)=false:=by rfl):
  PE X (.Call (.Name x p) (e::es) [] pos) (Og sp [] E0 t):=Nj (F.mono hj) hr hg A.mg A.F.kp A.b .nil pK ha IT he vC
theorem av{X:Cx}(i:Nat){x:Str}{es:List Expr}{t:TA}{pos:Pos}(hr:PA X es t)(hN:X.N[i]?=some x:=by rfl)(hv:Rm X.env.scope x:=by first|exact Or.inl rfl|exact Or.inr (Or.inl rfl)|exact Or.inr (Or.inr rfl))(hd:(x==("__debug__":Str))=false:=by decide)
  (Ga:(x==("__classdict__":Str))=false:=by decide)(hs:starEach (.Name x pos::es) X.env=(false,eval (.Name x pos) X.env)::starEach es X.env:=by rfl):PA X (.Name x pos::es) (GN (JX i) t):=ag (pv i hN hv hd Ga) hr hs
theorem sl{X:Cx}(i:Nat){x:Str}{e:Expr}{te:TE}{pos pos':Pos}(hN:X.N.Nodup)(he:PE X e te)(hi:X.N[i]?=some x:=by rfl)(hx:Loc X.env.scope x:=by first|exact Or.inl rfl|exact Or.inr rfl)(hs:swapsWith e (some (.Name x pos')) pos.line X.env=pure false:=by rfl)
  (hf:X.fn x=true\/X.env.scope.names.lookup x=some .local:=by first|exact .inl rfl|exact .inr rfl|assumption):PS X (.Assign [.Name x pos'] e pos) (Pq te (m5 i)):=PY hN hi hx he hs hf
theorem gl{X:Cx}(i:Nat){x:Str}{pos:Pos}(hN:X.N.Nodup)(hi:X.N[i]?=some x:=by rfl)(hx:Loc X.env.scope x:=by first|exact Or.inl rfl|exact Or.inr rfl)(hf:X.fn x=true\/X.env.scope.names.lookup x=some .local:=by first|exact .inl rfl|exact .inr rfl|assumption):PG X (.Name x pos) (m5 i):=Ng hN hi hx hf
structure FM(K:c9)(C:Addr)(x qual:Str)(st:Stmt)(ps:List Str)where
 f:Addr
 fd:FuncData
 F:O2 K x qual st f fd
 me:Meth K C x f
 b:Binds K fd ps []
structure FC(K:c9)(mg:jB)(x:Str)where
 C:Addr
 cl:JL K C
 mg:mg x=some (.ref C)
structure L9(K:c9)(mg:jB)where
 a:Addr
 as:List Addr
 mg:mg "FORMS"=some (.ref a)
 sq:∀H,c8 K H a (as.map V.ref)
 len:as.length=22
 each:∀(i:Nat)(p:Addr)(nk:Nat×Nat),as[i]?=some p->Pb.dS[i]?=some nk->∀H,c8 K H p [.int nk.1,.int nk.2]
structure XG(K:c9)(mg:jB)where
 Paper:FC K mg "Paper"
 bS:d3 K Paper.C "number"
 fm:d3 K Paper.C "who"
 bG:d3 K Paper.C "date"
 cC:d3 K Paper.C "boxes"
 de:d3 K Paper.C "parent"
 cq:d3 K Paper.C "named"
 cV:d3 K Paper.C "withdrawn"
 fT:d3 K Paper.C "rights_left"
 dE:d3 K Paper.C "published"
 Deed:FC K mg "Deed"
 pP:d3 K Deed.C "number"
 rB:d3 K Deed.C "paper"
 rD:d3 K Deed.C "boxes"
 rC:d3 K Deed.C "giver"
 rA:d3 K Deed.C "taker"
 nV:d3 K Deed.C "date"
 bM:FC K mg "Book"
 cJ:d3 K bM.C "leaves"
 ju:d3 K bM.C "rest_days"
 fg:d3 K bM.C "closed_days"
 aI:d3 K bM.C "papers"
 gM:d3 K bM.C "deeds"
 gm:d3 K bM.C "limits"
 gn:d3 K bM.C "firsts"
 ia:FM K Paper.C "__init__" "Paper.__init__" t9 ["self","number","who","date","boxes","parent"]
 um:Mk K Paper.C ia.f
 ni:FM K Deed.C "__init__" "Deed.__init__" wC ["self","number","paper","boxes","giver","taker","date"]
 Nt:Mk K Deed.C ni.f
 nj:FM K bM.C "__init__" "Book.__init__" wD ["self"]
 Nu:Mk K bM.C nj.f
 i0:FM K bM.C "begin" "Book.begin" ua ["self","leaves"]
 ib:FM K bM.C "forget" "Book.forget" rj ["self"]
 iR:FA K mg "discloses_all" kD ["paper","boxes"]
 sS:FA K mg "are_leaves" nI ["row"]
 oo:FA K mg "are_weekdays" lF ["row"]
 lK:FA K mg "boxes_in" sj ["leaves","row"]
 i8:FA K mg "is_in_field" j0 ["leaves","box"]
 lr:FA K mg "are_boxes" pA ["leaves","row","least"]
 sF:FA K mg "is_box" DE ["leaves","row"]
 oe:FA K mg "is_leap_year" px ["year"]
 iw:FA K mg "month_length" pj ["year","month"]
 j6:FA K mg "is_date" AX ["date"]
 weekday:FA K mg "weekday" AV ["date"]
 vM:FA K mg "day_after" wA ["date"]
 rV:FA K mg "year_later" tS ["date"]
 lI:FA K mg "first_open_day" mQ ["book","start"]
 uo:FA K mg "limit_of" yi ["book","paper"]
 kF:FA K mg "is_named_by_day" jl ["book","paper","day"]
 mC:FA K mg "left_no_trace" oI ["book","paper","day"]
 gP:FA K mg "no_older_left_a_trace" i5 ["book","paper","box"]
 uv:FA K mg "is_first" yj ["book","paper","box"]
 hZ:FA K mg "deeds_until" j1 ["book","paper","day"]
 qw:FA K mg "holder_on" wu ["book","paper","box","day"]
 qx:FA K mg "hindrance" wy ["book","paper","source","box"]
 xu:FA K mg "root_of" AW ["book","paper"]
 sP:FA K mg "day_of" DF ["book","paper","box"]
 nA:FA K mg "without_name" ph ["paper","number"]
 jv:FA K mg "naming_all_before" kI ["book","who","date","box"]
 sT:FA K mg "are_joined" t8 ["one","other"]
 vJ:FA K mg "family_of" wz ["book","paper"]
 nE:FA K mg "sources_of" nH ["book","paper"]
 sV:FA K mg "alike_with" nJ ["book","paper"]
 mZ:FA K mg "is_number" wt ["number"]
 hW:FA K mg "is_somebody" rh ["who"]
 h9:FA K mg "day_and_source" mR ["book","paper","box"]
 xU:FA K mg "tell_day" yg ["book","n","row"]
 u4:FA K mg "tell_days" wo ["book","n"]
 xT:FA K mg "tell_why" yf ["book","n","q","row"]
 rY:FA K mg "tell_limit" tU ["book","q"]
 rZ:FA K mg "tell_first" kO ["book","who","row"]
 o7:FA K mg "tell_holder" rb ["book","q","date","row"]
 o8:FA K mg "tell_family" rf ["book","n"]
 r9:FA K mg "tell_alike" tW ["book","n"]
 u1:FA K mg "tell_lost" wm ["book","n","q"]
 r6:FA K mg "tell_could" tV ["book","who","date","row"]
 r8:FA K mg "tell_claim" nG ["book","n","row"]
 nY:FA K mg "listed_boxes" pq ["paper"]
 rW:FA K mg "withdrawal" tT ["paper"]
 pG:FA K mg "publication" rg ["paper"]
 u0:FA K mg "tell_told" wk ["book","n"]
 ask:FA K mg "ask" Om ["book","call","numbers","row"]
 u7:FA K mg "set_field" wq ["book","row"]
 xZ:FA K mg "set_rest" yh ["book","row"]
 vO:FA K mg "close_day" wB ["book","date"]
 sJ:FA K mg "file_paper" t7 ["book","n","who","date","row"]
 mB:FA K mg "may_be_parted" oH ["parent","date","boxes"]
 sr:FA K mg "part_paper" tX ["book","n","q","date","row"]
 sA:FA K mg "name_paper" tY ["book","n","q"]
 oh:FA K mg "give_up_name" pz ["book","n","q"]
 jP:FA K mg "may_be_withdrawn" iX ["book","paper","date"]
 lA:FA K mg "withdraw_paper" mP ["book","n","date","left"]
 mx:FA K mg "publish_paper" oG ["book","n","date"]
 sH:FA K mg "hand_right" tZ ["book","k","q","giver","taker","date","row"]
 keep:FA K mg "keep" Kd ["book","call","numbers","row"]
 zo:FA K mg "calls_in" yk ["line"]
 answer:FA K mg "answer" DG ["book","call","numbers","row"]
 answers:FA K mg "answers" AY ["calls"]
 CM:∃t,mg "MOST_BOXES"=some (.int (12) t)
 CN:∃t,mg "FIRST_YEAR"=some (.int (1900) t)
 EN:∃t,mg "LAST_YEAR"=some (.int (2199) t)
 Hy:∃t,mg "GIVEN"=some (.int (0) t)
 EL:∃t,mg "NOT_NAMED"=some (.int (1) t)
 xf:∃t,mg "NOT_DISCLOSED"=some (.int (2) t)
 Gu:∃t,mg "TOO_LATE"=some (.int (3) t)
 EM:∃t,mg "NOT_FIRST"=some (.int (4) t)
 Gv:∃t,mg "NO_RIGHT"=some (.int (5) t)
 gw:∃t,mg "OUT_OF_RANGE"=some (.int (-3) t)
 i9:∃t,mg "NO_DATE"=some (.int (-2) t)
 fH:∃t,mg "BAD_LIST"=some (.int (-4) t)
 dz:∃t,mg "NO_PAPER"=some (.int (-5) t)
 lJ:∃t,mg "NUMBER_TAKEN"=some (.int (-6) t)
 eQ:∃t,mg "DOES_NOT_FIT"=some (.int (-7) t)
 gh:∃t,mg "NOTHING_TO_CHANGE"=some (.int (-8) t)
 zq:∃t,mg "FULL"=some (.int (-9) t)
 sR:∃t,mg "MOST_CLOSED_DAYS"=some (.int (200) t)
 rL:∃t,mg "MOST_PAPERS"=some (.int (24) t)
 CK:∃t,mg "MOST_NAMES"=some (.int (8) t)
 CL:∃t,mg "MOST_DEEDS"=some (.int (40) t)
 zr:∃t,mg "FIRST_ASKING"=some (.int (10) t)
 gz:mg "len"=none
 Bq:mg "all"=none
 OW:mg "any"=none
 km:mg "sorted"=none
 LY:mg "set"=none
 lL:mg "list"=none
 gT:mg "tuple"=none
 HA:mg "range"=none
 OV:mg "zip"=none
 ET:mg "enumerate"=none
 T8:mg "min"=none
 Rg:mg "dict"=none
 dS:L9 K mg
 dc:Addr
 oW:Addr
 OS:hZ.fd.code=.ref dc
 XF:∀h:Heap,K.In h->PySem.W.CodeHd h dc oW
structure Tx(K:c9)(mg:jB)(base:Heap)extends XG K mg where
 bmod:∃bm ob,mg "__builtins__"=some (.ref bm)/\bm≠builtinsNs/\base.get? bm=some ob/\ob.cls=.type "module"/\ob.dict=some builtinsNs/\ob.data=.plain
theorem g9{N P:List Str}{sc:Scope}(a:sc.kind=.function:=by rfl)(b:sc.isCoroutine=false:=by rfl)(c:sc.isGenerator=false:=by rfl)(d:N.Nodup:=by decide +kernel)(e:N.take P.length=P:=by rfl)(f:∀x∈P,sc.names.lookup x=some .local\/sc.names.lookup x=some .cell:=by decide +kernel)(g:∀y∈sc.names,y.2≠ .free:=by decide +kernel):a9 N P sc:=⟨a,b,c,d,e,f,g⟩
theorem Ae:a9 ["self","number","who","date","boxes","parent"] ["self","number","who","date","boxes","parent"] (aL t9):=g9
theorem BH:a9 ["self","number","paper","boxes","giver","taker","date"] ["self","number","paper","boxes","giver","taker","date"] (aL wC):=g9
theorem BI:a9 ["self"] ["self"] (aL wD):=g9
theorem Af:a9 ["self","leaves"] ["self","leaves"] (aL ua):=g9
theorem ye:a9 ["self"] ["self"] (aL rj):=g9
theorem mO:a9 ["paper","boxes","box"] ["paper","boxes"] (aL kD):=g9
theorem qZ:a9 ["row","leaves"] ["row"] (aL nI):=g9
theorem oF:a9 ["row","day"] ["row"] (aL lF):=g9
theorem we:a9 ["leaves","row","width","place"] ["leaves","row"] (aL sj):=g9
theorem jk:a9 ["leaves","box","number","count"] ["leaves","box"] (aL j0):=g9
theorem tR:a9 ["leaves","row","least","boxes","box"] ["leaves","row","least"] (aL pA):=g9
theorem Ia:a9 ["leaves","row"] ["leaves","row"] (aL DE):=g9
theorem wU:a9 ["year"] ["year"] (aL px):=g9
theorem wR:a9 ["year","month"] ["year","month"] (aL pj):=g9
theorem FI:a9 ["date"] ["date"] (aL AX):=g9
theorem x8:a9 ["date","past","days","month"] ["date"] (aL AV):=g9
theorem BF:a9 ["date"] ["date"] (aL wA):=g9
theorem qR:a9 ["date","year"] ["date"] (aL tS):=g9
theorem lX:a9 ["book","start","date","day"] ["book","start"] (aL mQ):=g9
theorem DC:a9 ["book","paper"] ["book","paper"] (aL yi):=g9
theorem lE:a9 ["book","paper","day","other"] ["book","paper","day"] (aL jl):=g9
theorem va:a9 ["book","paper","day"] ["book","paper","day"] (aL oI):=g9
theorem iO:a9 ["book","paper","box","other","is_older"] ["book","paper","box"] (aL i5):=g9
theorem wb:a9 ["book","paper","box","asked"] ["book","paper","box"] (aL yj):=g9
theorem pf:a9 ["book","paper","day","deeds","deed"] ["book","paper","day"] (aL j1):=g9
theorem tP:a9 ["book","paper","box","day","holder","deed"] ["book","paper","box","day"] (aL wu):=g9
theorem BE:a9 ["book","paper","source","box"] ["book","paper","source","box"] (aL wy):=g9
theorem ya:a9 ["book","paper","root"] ["book","paper"] (aL AW):=g9
theorem AU:a9 ["book","paper","box","root","day","source","number","named"] ["book","paper","box"] (aL DF):=g9
theorem oB:a9 ["paper","number","thought"] ["paper","number"] (aL ph):=g9
theorem kc:a9 ["book","who","date","box","thought","other"] ["book","who","date","box"] (aL kI):=g9
theorem Ac:a9 ["one","other"] ["one","other"] (aL t8):=g9
theorem tQ:a9 ["book","paper","found","waiting","one","other"] ["book","paper"] (aL wz):=g9
theorem qV:a9 ["book","paper","box"] ["book","paper"] (aL nH):=g9
theorem ra:a9 ["book","paper","sources","other"] ["book","paper"] (aL nJ):=g9
theorem BD:a9 ["number"] ["number"] (aL wt):=g9
theorem yc:a9 ["who"] ["who"] (aL rh):=g9
theorem lY:a9 ["book","paper","box","found"] ["book","paper","box"] (aL mR):=g9
theorem wa:a9 ["book","n","row","paper","box"] ["book","n","row"] (aL yg):=g9
theorem tO:a9 ["book","n","paper","told","box"] ["book","n"] (aL wo):=g9
theorem DA:a9 ["book","n","q","row"] ["book","n","q","row"] (aL yf):=g9
theorem z9:a9 ["book","q"] ["book","q"] (aL tU):=g9
theorem qS:a9 ["book","who","row","box","disclosing","paper"] ["book","who","row"] (aL kO):=g9
theorem pb:a9 ["book","q","date","row","paper","box"] ["book","q","date","row"] (aL rb):=g9
theorem x9:a9 ["book","n"] ["book","n"] (aL rf):=g9
theorem Aa:a9 ["book","n"] ["book","n"] (aL tW):=g9
theorem tN:a9 ["book","n","q","paper","root","thought","told","place","box","other_day"] ["book","n","q"] (aL wm):=g9
theorem qT:a9 ["book","who","date","row","box"] ["book","who","date","row"] (aL tV):=g9
theorem qU:a9 ["book","n","row","paper","boxes","days","different","told","day","box"] ["book","n","row"] (aL nG):=g9
theorem oC:a9 ["paper","told","box"] ["paper"] (aL pq):=g9
theorem zZ:a9 ["paper"] ["paper"] (aL tT):=g9
theorem yb:a9 ["paper"] ["paper"] (aL rg):=g9
theorem tM:a9 ["book","n","paper","told"] ["book","n"] (aL wk):=g9
theorem PN:a9 ["book","call","numbers","row"] ["book","call","numbers","row"] (aL Om):=g9
theorem BC:a9 ["book","row"] ["book","row"] (aL wq):=g9
theorem DB:a9 ["book","row"] ["book","row"] (aL yh):=g9
theorem BG:a9 ["book","date"] ["book","date"] (aL wB):=g9
theorem Ab:a9 ["book","n","who","date","row"] ["book","n","who","date","row"] (aL t7):=g9
theorem u9:a9 ["parent","date","boxes"] ["parent","date","boxes"] (aL oH):=g9
theorem qW:a9 ["book","n","q","date","row","parent","boxes"] ["book","n","q","date","row"] (aL tX):=g9
theorem qX:a9 ["book","n","q","paper"] ["book","n","q"] (aL tY):=g9
theorem oE:a9 ["book","n","q","paper"] ["book","n","q"] (aL pz):=g9
theorem kH:a9 ["book","paper","date","other"] ["book","paper","date"] (aL iX):=g9
theorem lW:a9 ["book","n","date","left","paper"] ["book","n","date","left"] (aL mP):=g9
theorem mN:a9 ["book","n","date","paper"] ["book","n","date"] (aL oG):=g9
theorem qY:a9 ["book","k","q","giver","taker","date","row","paper","boxes"] ["book","k","q","giver","taker","date","row"] (aL tZ):=g9
theorem MX:a9 ["book","call","numbers","row"] ["book","call","numbers","row"] (aL Kd):=g9
theorem wc:a9 ["line","found","place","call","form","end","numbers","row","start"] ["line"] (aL yk):=g9
theorem Ib:a9 ["book","call","numbers","row"] ["book","call","numbers","row"] (aL DG):=g9
theorem yd:a9 ["calls","book","given","call","numbers"] ["calls"] (aL AY):=g9
end Pr
namespace Pr
open PySem PySem.Spec PyProof.Rows L2
open PySem.W (WData Codec OpenSpec Well WellAll ReadsW ReadsAllW)
section
variable{K:c9}{mg:jB}{h:Heap}
abbrev FA.of{x:Str}{st:Stmt}{ps:List Str}{f:Addr}{oc:Value}{od an:Option Addr}{G3:Array (Option Value)}{kV doc pm mq ct:Value}(X:K.In h)(G:h.Ns mainGlobals mg)
  (a:PySem.W.nsIn K mainGlobals x=some (some (.ref f)))(l:K.lookup f=some ⟨oc,od,.func (PySem.W.fnOf x x (mj st) (iW st) (aL st) .none kV doc pm an mq ct),G3⟩)(c:PySem.W.codeIn K mq x=true)(k:PySem.W.keepIn K (.ref f)=true)
  (b:∀(kV doc pm:Value)(an:Option Addr)(mq ct:Value)(us:List Value),us.length=ps.length->bindArgs (PySem.W.fnOf x x (mj st) (iW st) (aL st) .none kV doc pm an mq ct) ⟨us,[]⟩=pure (ps.zip us):=by intro _ _ _ _ _ _ us hl;first|(match us,hl with| [_],_=>rfl)|(match us,hl with| [_,_],_=>rfl)|(match us,hl with| [_,_,_],_=>rfl)|(match us,hl with| [_,_,_,_],_=>rfl)|(match us,hl with| [_,_,_,_,_],_=>rfl)|(match us,hl with| [_,_,_,_,_,_],_=>rfl)|(match us,hl with| [_,_,_,_,_,_,_],_=>rfl)):FA K mg x st ps:=
 ⟨f,_,CC l c k,Ff X G a,(CC l c k).binds b⟩
abbrev FM.of{C:Addr}{x q:Str}{st:Stmt}{ps:List Str}{f:Addr}{oc:Value}{od an:Option Addr}{G3:Array (Option Value)}{kV doc pm mq ct:Value}
  (a:PySem.W.findIn K (.ref C) x=some (some (.ref f)))(i:PySem.W.isFn K (.ref f)=true)(l:K.lookup f=some ⟨oc,od,.func (PySem.W.fnOf x q (mj st) (iW st) (aL st) .none kV doc pm an mq ct),G3⟩)(c:PySem.W.codeIn K mq q=true)(k:PySem.W.keepIn K (.ref f)=true)
  (b:∀(kV doc pm:Value)(an:Option Addr)(mq ct:Value)(us:List Value),us.length=ps.length->bindArgs (PySem.W.fnOf x q (mj st) (iW st) (aL st) .none kV doc pm an mq ct) ⟨us,[]⟩=pure (ps.zip us):=by intro _ _ _ _ _ _ us hl;first|(match us,hl with| [_],_=>rfl)|(match us,hl with| [_,_],_=>rfl)|(match us,hl with| [_,_,_],_=>rfl)|(match us,hl with| [_,_,_,_],_=>rfl)|(match us,hl with| [_,_,_,_,_],_=>rfl)|(match us,hl with| [_,_,_,_,_,_],_=>rfl)|(match us,hl with| [_,_,_,_,_,_,_],_=>rfl)):FM K C x q st ps:=
 ⟨f,_,CC l c k,⟨a,i,k⟩,(CC l c k).binds b⟩
abbrev FC.of{x:Str}{C:Addr}(X:K.In h)(G:h.Ns mainGlobals mg)(a:PySem.W.nsIn K mainGlobals x=some (some (.ref C)))(c:JL K C):FC K mg x:=⟨C,c,Ff X G a⟩
theorem na{C:Addr}{f:Str}(e:PySem.W.findIn K (.ref C) f=some none):d3 K C f:=e
theorem XZ{C:Addr}{q:Str}{st:Stmt}{ps:List Str}(M:FM K C "__init__" q st ps)(a:PySem.W.makesIn K C=true)(d:PySem.W.keepIn K (.ref C)=true):Mk K C M.f:=⟨a,M.me.at_,M.me.fn,d⟩
theorem cst{x:Str}{i:Int}{t:Tok}(X:K.In h)(G:h.Ns mainGlobals mg)(e:PySem.W.nsIn K mainGlobals x=some (some (.int i t))):∃t,mg x=some (.int i t):=⟨t,Ff X G e⟩
def Pe(o:Obj):Option (List Value):=match o.data with
 | .seq bU _=>match o.cls with
  | .type s=>if s="tuple"/\bU.size<=sizeLine then some bU.toList else none
  |_=>none
 |_=>none
theorem Pd{o:Obj}{l:List Value}(e:Pe o=some l):∃bU n,o.cls=.type "tuple"/\o.data=.seq bU n/\bU.size<=sizeLine/\bU.toList=l:=by
 unfold Pe at e;split at e
 ·rename_i bU n hd
  split at e
  ·rename_i s hc
   by_cases q:s="tuple"/\bU.size<=sizeLine
   ·rw[az q]at e
    exact⟨bU,n,by rw[hc,q.1],hd,q.2,bw e⟩
   ·rw[aw q]at e;cases e
  ·cases e
 ·cases e
def UB(K:c9)(v:Value)(nk:Nat×Nat):Bool:=match v with
 | .ref p=>match(K.lookup p).bind Pe with
  |some [.int a _,.int b _]=>decide (a=nk.1)&&decide (b=nk.2)
  |_=>false
 |_=>false
theorem QE{v:Value}{nk:Nat×Nat}(e:UB K v nk=true):∃p,v=.ref p/\∀H,c8 K H p [.int nk.1,.int nk.2]:=by
 unfold UB at e;split at e
 ·rename_i p
  split at e
  ·rename_i a t b t' hb
   obtain⟨o,ho,hl⟩:=Option.bind_eq_some_iff.mp hb;obtain⟨bU,n,hc,hd,hs,hi⟩:=Pd hl;rw[a6,bj,bj]at e;refine⟨p,rfl,λH=>.inr ⟨o,bU,n,ho,hc,hd,hs,?_⟩⟩;rw[hi,<-e.1,<-e.2];exact .cons ⟨_,rfl⟩ (.cons ⟨_,rfl⟩ .nil)
  ·cases e
 ·cases e
def PV:Value->Addr
 | .ref p=>p
 |_=>0
theorem Rj:∀{vs:List Value}{l:List (Nat×Nat)},vs.length=l.length->((vs.zip l).all λe=>UB K e.1 e.2)=true->Vals ((vs.map PV).map V.ref) vs/\∀(i:Nat)(p:Addr)(nk:Nat×Nat),(vs.map PV)[i]?=some p->l[i]?=some nk->∀H,c8 K H p [.int nk.1,.int nk.2]
 | [],[],_,_=>⟨.nil,λi p nk h=>by simp at h⟩
 | [],_::_,h,_=>by simp at h
 |_::_,[],h,_=>by simp at h
 |v::vs,nk::l,h,e=>by
  rw[dH,jg,a6]at e;obtain⟨p,rfl,hp⟩:=QE e.1;obtain⟨h1,h2⟩:=Rj (by simpa using h) e.2;refine⟨.cons rfl h1,λi q mk hq hm=>?_⟩;cases i with
  |zero=>
   simp only[aT,xn,Option.some.injEq]at hq hm;rw[<-hq,<-hm];exact hp
  |succ i=>
   simp only[aT,xo]at hq hm;exact h2 i q mk hq hm
abbrev L9.of{a:Addr}{od:Option Addr}{bU:Array Value}{n:Nat}{sl:Array (Option Value)}(X:K.In h)(G:h.Ns mainGlobals mg)(e:PySem.W.nsIn K mainGlobals "FORMS"=some (some (.ref a)))(l:K.lookup a=some ⟨.type "tuple",od,.seq bU n,sl⟩)(c:(decide (bU.size=22)&&(bU.toList.zip Pb.dS).all λe=>UB K e.1 e.2)=true):L9 K mg where
 a:=a
 as:=bU.toList.map PV
 mg:=Ff X G e
 sq:=λH=>by
  rw[a6,bj]at c;exact .inr ⟨_,bU,n,l,rfl,rfl,by rw[c.1];decide,(Rj (by rw[bh,c.1];rfl) c.2).1⟩
 len:=by
  rw[a6,bj]at c;rw[ab,bh,c.1]
 each:=λi p nk h1 h2=>by
  rw[a6,bj]at c;exact(Rj (by rw[bh,c.1];rfl) c.2).2 i p nk h1 h2
theorem XD{dc oW:Addr}{od:Option Addr}{vs:Array Value}{sl:Array (Option Value)}{file:Str}{flags text:Int}{V0:Bool}{tf tg tt:Tok}(l:K.lookup dc=some ⟨.type "code",od,.fields vs,sl⟩)(e1:vs[11]?=some (.ref oW))(e3:vs.getD 18 .none=.str file tf)(e4:vs.getD 7 .none=.int flags tg)
  (e5:vs.getD 9 .none=.bool V0)(e6:vs.getD 10 .none=.int text tt)(n:(dc==oW)=false):∀h:Heap,K.In h->PySem.W.CodeHd h dc oW:=λh X=>
 ⟨_,vs,file,tf,flags,tg,V0,text,tt,X _ _ l,rfl,rfl,e1,by rw[jH,e1];rfl,e3,e4,e5,e6,by simpa using n⟩
end
end Pr
namespace Pr
open PySem PySem.Spec PyProof.Rows L2
open Vbptae (State Paper Deed Box)
def dv(n:Nat):List V:=(Vbptae.shown n).map V.int
def bv(b:Box):List V:=(Vbptae.ints b).map V.int
def dk(n:Nat):List Key:=(Vbptae.shown n).map Sum.inl
theorem QD(l:List Int):(l.map (Sum.inl:Int->Key)).map kV=l.map V.int:=by
 rw[bC];rfl
theorem zg(n:Nat):(dk n).map kV=dv n:=QD _
def pF(n w:Int)(dt bl:V)(pa:Int)(nm wd:V)(rl:Bool)(pu:V):List (Str×V):=
 [("number",.int n),("who",.int w),("date",dt),("boxes",bl),("parent",.int pa),("named",nm),("withdrawn",wd),("rights_left",.bl rl),("published",pu)]
def dF(n p:Int)(bl:V)(g t:Int)(dt:V):List (Str×V):=
 [("number",.int n),("paper",.int p),("boxes",bl),("giver",.int g),("taker",.int t),("date",dt)]
def bF(l r c p d li fi:V):List (Str×V):=
 [("leaves",l),("rest_days",r),("closed_days",c),("papers",p),("deeds",d),("limits",li),("firsts",fi)]
theorem KU{f:Str}{v:V}{l:List (Str×V)}:List.lookup f ((f,v)::l)=some v:=by
 have hb:(f==f)=true:=beq_self_eq_true f;simp only[List.lookup,hb]
theorem Eb{f g:Str}{v:V}{l:List (Str×V)}(h:(f==g)=false):List.lookup f ((g,v)::l)=List.lookup f l:=by
 simp only[List.lookup,h]
theorem SE{f:Str}{v x:V}{l:List (Str×V)}:bZ f v ((f,x)::l)=(f,v)::l:=by
 show(if f=f then _ else _)=_;rw[az rfl]
theorem df{n w:Int}{dt bl:V}{pa:Int}{nm wd:V}{rl:Bool}{pu:V}:List.lookup ("number":Str) (pF n w dt bl pa nm wd rl pu)=some (.int n):=KU
theorem pL{n w:Int}{dt bl:V}{pa:Int}{nm wd:V}{rl:Bool}{pu:V}:List.lookup ("who":Str) (pF n w dt bl pa nm wd rl pu)=some (.int w):=by kernel_rfl
theorem dN{n w:Int}{dt bl:V}{pa:Int}{nm wd:V}{rl:Bool}{pu:V}:List.lookup ("date":Str) (pF n w dt bl pa nm wd rl pu)=some (dt):=by kernel_rfl
theorem fS{n w:Int}{dt bl:V}{pa:Int}{nm wd:V}{rl:Bool}{pu:V}:List.lookup ("boxes":Str) (pF n w dt bl pa nm wd rl pu)=some (bl):=by kernel_rfl
theorem ir{n w:Int}{dt bl:V}{pa:Int}{nm wd:V}{rl:Bool}{pu:V}:List.lookup ("parent":Str) (pF n w dt bl pa nm wd rl pu)=some (.int pa):=by kernel_rfl
theorem fE{n w:Int}{dt bl:V}{pa:Int}{nm wd:V}{rl:Bool}{pu:V}:List.lookup ("named":Str) (pF n w dt bl pa nm wd rl pu)=some (nm):=by kernel_rfl
theorem gF{n w:Int}{dt bl:V}{pa:Int}{nm wd:V}{rl:Bool}{pu:V}:List.lookup ("withdrawn":Str) (pF n w dt bl pa nm wd rl pu)=some (wd):=by kernel_rfl
theorem pM{n w:Int}{dt bl:V}{pa:Int}{nm wd:V}{rl:Bool}{pu:V}:List.lookup ("rights_left":Str) (pF n w dt bl pa nm wd rl pu)=some (.bl rl):=by kernel_rfl
theorem jq{n w:Int}{dt bl:V}{pa:Int}{nm wd:V}{rl:Bool}{pu:V}:List.lookup ("published":Str) (pF n w dt bl pa nm wd rl pu)=some (pu):=by kernel_rfl
theorem Jh{n p:Int}{bl:V}{g t:Int}{dt:V}:List.lookup ("number":Str) (dF n p bl g t dt)=some (.int n):=KU
theorem LL{n p:Int}{bl:V}{g t:Int}{dt:V}:List.lookup ("paper":Str) (dF n p bl g t dt)=some (.int p):=by kernel_rfl
theorem LN{n p:Int}{bl:V}{g t:Int}{dt:V}:List.lookup ("boxes":Str) (dF n p bl g t dt)=some (bl):=by kernel_rfl
theorem LM{n p:Int}{bl:V}{g t:Int}{dt:V}:List.lookup ("giver":Str) (dF n p bl g t dt)=some (.int g):=by kernel_rfl
theorem LK{n p:Int}{bl:V}{g t:Int}{dt:V}:List.lookup ("taker":Str) (dF n p bl g t dt)=some (.int t):=by kernel_rfl
theorem Hw{n p:Int}{bl:V}{g t:Int}{dt:V}:List.lookup ("date":Str) (dF n p bl g t dt)=some (dt):=by kernel_rfl
theorem fC{l r c p d li fi:V}:List.lookup ("leaves":Str) (bF l r c p d li fi)=some (l):=KU
theorem CQ{l r c p d li fi:V}:List.lookup ("rest_days":Str) (bF l r c p d li fi)=some (r):=by kernel_rfl
theorem jA{l r c p d li fi:V}:List.lookup ("closed_days":Str) (bF l r c p d li fi)=some (c):=by kernel_rfl
theorem bc{l r c p d li fi:V}:List.lookup ("papers":Str) (bF l r c p d li fi)=some (p):=by kernel_rfl
theorem qg{l r c p d li fi:V}:List.lookup ("deeds":Str) (bF l r c p d li fi)=some (d):=by kernel_rfl
theorem m9{l r c p d li fi:V}:List.lookup ("limits":Str) (bF l r c p d li fi)=some (li):=by kernel_rfl
theorem nh{l r c p d li fi:V}:List.lookup ("firsts":Str) (bF l r c p d li fi)=some (fi):=by kernel_rfl
theorem EV{l r c p d li fi:V}:List.lookup ("begin":Str) (bF l r c p d li fi)=none:=by kernel_rfl
theorem uJ{l r c p d li fi:V}:List.lookup ("forget":Str) (bF l r c p d li fi)=none:=by kernel_rfl
theorem BV{n w:Int}{dt bl:V}{pa:Int}{nm wd:V}{rl:Bool}{pu x:V}:bZ ("named":Str) x (pF n w dt bl pa nm wd rl pu)=pF n w dt bl pa x wd rl pu:=by kernel_rfl
theorem ve{n w:Int}{dt bl:V}{pa:Int}{nm wd:V}{rl:Bool}{pu x:V}:bZ ("withdrawn":Str) x (pF n w dt bl pa nm wd rl pu)=pF n w dt bl pa nm x rl pu:=by kernel_rfl
theorem sx{n w:Int}{dt bl:V}{pa:Int}{nm wd:V}{rl x:Bool}{pu:V}:bZ ("rights_left":Str) (.bl x) (pF n w dt bl pa nm wd rl pu)=pF n w dt bl pa nm wd x pu:=by kernel_rfl
theorem vf{n w:Int}{dt bl:V}{pa:Int}{nm wd:V}{rl:Bool}{pu x:V}:bZ ("published":Str) x (pF n w dt bl pa nm wd rl pu)=pF n w dt bl pa nm wd rl x:=by kernel_rfl
theorem rO{l r c p d li fi x:V}:bZ ("leaves":Str) x (bF l r c p d li fi)=bF x r c p d li fi:=SE
theorem jV{l r c p d li fi x:V}:bZ ("rest_days":Str) x (bF l r c p d li fi)=bF l x c p d li fi:=by kernel_rfl
theorem lM{l r c p d li fi x:V}:bZ ("closed_days":Str) x (bF l r c p d li fi)=bF l r x p d li fi:=by kernel_rfl
theorem rM{l r c p d li fi x:V}:bZ ("papers":Str) x (bF l r c p d li fi)=bF l r c x d li fi:=by kernel_rfl
theorem uI{l r c p d li fi x:V}:bZ ("deeds":Str) x (bF l r c p d li fi)=bF l r c p x li fi:=by kernel_rfl
theorem rN{l r c p d li fi x:V}:bZ ("limits":Str) x (bF l r c p d li fi)=bF l r c p d x fi:=by kernel_rfl
theorem rP{l r c p d li fi x:V}:bZ ("firsts":Str) x (bF l r c p d li fi)=bF l r c p d li x:=by kernel_rfl
def soft:HO->Bool
 | .dT _=>true
 | .ext _=>true
 | .tI _=>true
 |_=>false
def Kp(H H':Hp):Prop:=∀b o,H b=some o->soft o=false->H' b=some o
theorem Kp.refl(H:Hp):Kp H H:=λ_ _ h _=>h
theorem Kp.trans{H H1 H2:Hp}(a:Kp H H1)(b:Kp H1 H2):Kp H H2:=λc o h z=>b c o (a c o h z) z
theorem Kp.soft{H:Hp}{p:Addr}{o u:HO}(h:H p=some u)(z:soft u=true):Kp H (upd H p o):=λb v e y=>by
 have:b≠p:=λq=>by
  rw[q,h]at e;cases e;rw[z]at y;cases y
 rw[aG this];exact e
def sq:HO->Bool
 | .lst _=>true
 | .tup _=>true
 | .iV _ _=>true
 |_=>false
def Kl(H H':Hp):Prop:=∀b o,H b=some o->sq o=true->H' b=some o
theorem Kl.trans{H H1 H2:Hp}(a:Kl H H1)(b:Kl H1 H2):Kl H H2:=λc o h z=>b c o (a c o h z) z
theorem Kp.kl{H H':Hp}(h:Kp H H'):Kl H H':=λb o e z=>h b o e (by cases o<;>first|rfl|cases z)
theorem Kp.tup{H H':Hp}(h:Kp H H'){a:Addr}{xs:List V}(e:H a=some (.tup xs)):H' a=some (.tup xs):=h _ _ e rfl
theorem Kl.lst{H H':Hp}(h:Kl H H'){a:Addr}{xs:List V}(e:H a=some (.lst xs)):H' a=some (.lst xs):=h _ _ e rfl
theorem Kl.tup{H H':Hp}(h:Kl H H'){a:Addr}{xs:List V}(e:H a=some (.tup xs)):H' a=some (.tup xs):=h _ _ e rfl
theorem Kl.seq{K:c9}{H H':Hp}(e:Kl H H'){a:Addr}{xs:List V}(h:cG K H a xs):cG K H' a xs:=by
 rcases h with(h|⟨o,h⟩)|h
 ·exact .inl (.inl (e _ _ h rfl))
 ·exact .inl (.inr ⟨o,e _ _ h rfl⟩)
 ·exact .inr h
theorem Kl.AQ{K:c9}{H H':Hp}(e:Kl H H'){a:Addr}{xs:List V}(h:c8 K H a xs):c8 K H' a xs:=by
 rcases h with(h|⟨o,h⟩)|h
 ·exact .inl (.inl (e _ _ h rfl))
 ·exact .inl (.inr ⟨o,e _ _ h rfl⟩)
 ·exact .inr h
def tj(H:Hp)(as:List Addr)(bs:List Box):Prop:=as.length=bs.length/\∀(i:Nat)(a:Addr)(b:Box),as[i]?=some a->bs[i]?=some b->H a=some (.tup (bv b))
def CZ(H:Hp)(l:Addr)(bs:List Box):Prop:=∃as:List Addr,H l=some (.lst (as.map V.ref))/\tj H as bs
def GC(H:Hp)(v:V):Option Nat->Prop
 |none=>v=.fL
 |some n=>∃a,v=.ref a/\H a=some (.tup (dv n))
def fF(nm:List Nat):List (Key×V):=nm.map λ(q:Nat)=>((Sum.inl (q:Int):Key),V.bl true)
def Ig(o:Option (Nat×Bool)):Bool:=match o with|none=>false|some x=>x.2
structure zC(C:Addr)(H:Hp)(a nd:Addr)(p:Paper)(dx dt bl:Addr)(nm:List Nat)(wd pu:V):Prop where
 ins:H a=some (.ins C dx (pF p.num p.who (.ref dt) (.ref bl) p.parent (.ref nd) wd (Ig p.out) pu))
 date:H dt=some (.tup (dv p.day))
 boxes:CZ H bl p.boxes
 named:H nd=some (.dK (fF nm))
 perm:nm.Perm p.names
 out:GC H wd (p.out.map (·.1))
 shown:GC H pu p.shown
def dZ(C:Addr)(H:Hp)(a nd:Addr)(p:Paper):Prop:=∃dx dt bl nm wd pu,zC C H a nd p dx dt bl nm wd pu
structure Ue(C:Addr)(H:Hp)(a:Addr)(d:Deed)(dx dt bl:Addr):Prop where
 ins:H a=some (.ins C dx (dF d.num d.paper (.ref bl) d.giver d.taker (.ref dt)))
 date:H dt=some (.tup (dv d.day))
 boxes:CZ H bl d.boxes
def vU(C:Addr)(H:Hp)(a:Addr)(d:Deed):Prop:=∃dx dt bl,Ue C H a d dx dt bl
theorem tj.keep{H H':Hp}(k:Kl H H'){as:List Addr}{bs:List Box}(h:tj H as bs):tj H' as bs:=⟨h.1,λi a b h1 h2=>k.tup (h.2 i a b h1 h2)⟩
theorem CZ.keep{H H':Hp}(k:Kl H H'){l:Addr}{bs:List Box}(h:CZ H l bs):CZ H' l bs:=let⟨as,h1,h2⟩:=h;⟨as,k.lst h1,h2.keep k⟩
theorem GC.keep{H H':Hp}(k:Kl H H'){v:V}{o:Option Nat}(h:GC H v o):GC H' v o:=by
 cases o with
 |none=>exact h
 |some n=>obtain⟨a,h1,h2⟩:=h;exact⟨a,h1,k.tup h2⟩
theorem zC.keep{C:Addr}{H H':Hp}{a nd:Addr}{p:Paper}{dx dt bl:Addr}{nm:List Nat}{wd pu:V}(k:Kl H H')(ka:∀o,H a=some o->H' a=some o)(kn:∀o,H nd=some o->H' nd=some o)(h:zC C H a nd p dx dt bl nm wd pu):zC C H' a nd p dx dt bl nm wd pu:=
 ⟨ka _ h.ins,k.tup h.date,h.boxes.keep k,kn _ h.named,h.perm,h.out.keep k,h.shown.keep k⟩
theorem dZ.kp{C:Addr}{H H':Hp}{a nd:Addr}{p:Paper}(k:Kp H H')(h:dZ C H a nd p):dZ C H' a nd p:=by
 obtain⟨dx,dt,bl,nm,wd,pu,r⟩:=h;exact⟨dx,dt,bl,nm,wd,pu,r.keep k.kl (λo e=>by rw[r.ins]at e;cases e;exact k _ _ r.ins rfl) (λo e=>by rw[r.named]at e;cases e;exact k _ _ r.named rfl)⟩
theorem vU.kp{C:Addr}{H H':Hp}{a:Addr}{d:Deed}(k:Kp H H')(h:vU C H a d):vU C H' a d:=by
 obtain⟨dx,dt,bl,r⟩:=h;exact⟨dx,dt,bl,k _ _ r.ins rfl,k.tup r.date,r.boxes.keep k.kl⟩
end Pr
namespace Pr
open PySem PySem.Spec PyProof.Rows L2
theorem boot_all:bootBuiltins "all"=some (.builtin "all"):=by decide +kernel
theorem boot_any:bootBuiltins "any"=some (.builtin "any"):=by decide +kernel
theorem boot_min:bootBuiltins "min"=some (.builtin "min"):=by decide +kernel
theorem boot_sorted:bootBuiltins "sorted"=some (.builtin "sorted"):=by decide +kernel
theorem boot_list:bootBuiltins "list"=some (.type "list"):=by decide +kernel
theorem boot_tuple:bootBuiltins "tuple"=some (.type "tuple"):=by decide +kernel
theorem boot_dict:bootBuiltins "dict"=some (.type "dict"):=by decide +kernel
theorem boot_set:bootBuiltins "set"=some (.type "set"):=by decide +kernel
theorem bX{X:Cx}{x:Str}{i:Int}{pos:Pos}(hg:Gl X x)(hm:∃t,X.mg x=some (.int i t))(hd:(x==("__debug__":Str))=false:=by decide):PE X (.Name x pos) (tC (.int i)):=by
 obtain⟨t,e⟩:=hm;exact G2 hg e ⟨t,rfl⟩ hd
def TupIs(h:Heap)(a:Addr)(ns:List Int):Prop:=∃bU:List Value,IsTup h a bU.toArray/\IntsAre bU ns
theorem TupIs.inj{h:Heap}{a:Addr}{ns ms:List Int}(x:TupIs h a ns)(y:TupIs h a ms):ns=ms:=by
 obtain⟨i1,⟨o,e,_,n,d⟩,r1⟩:=x;obtain⟨i2,⟨o',e',_,n',d'⟩,r2⟩:=y;rw[e]at e';cases e';rw[d]at d';injection d' with d1 _
 have:i1=i2:=by simpa using gW Array.toList d1
 subst this;have a1:=ie r1;have a2:=ie r2;have:=a1.inj a2;have inj:∀{a b:List Int},a.map V.int=b.map V.int->a=b:=by
  intro a
  induction a with
  |nil=>intro b h;cases b with
   |nil=>rfl
   |cons _ _=>cases h
  |cons x a ih=>intro b h;cases b with
   |nil=>cases h
   |cons y b=>
    rw[aT,aT]at h;injection h with h1 h2
    injection h1 with h1
    rw[h1,ih h2]
 exact inj this
theorem items_int{prog:Program}{w:World}:∀{us:List Value}{ns:List Int},IntsAre us ns->ItemsAre (intKind prog w) ns us
 |_,_,.nil=>.nil
 |_,_,.cons n t r=>.cons (E1 _ _ _ _) (items_int r)
theorem TupIs.key{prog:Program}{w:World}{h:Heap}{a:Addr}{ns:List Int}(x:TupIs h a ns):IsTupleKey (intKind prog w) h ns a:=by
 obtain⟨bU,⟨o,e,c,n,d⟩,r⟩:=x;exact⟨o,bU.toArray,n,e,c,d,by simpa using items_int r⟩
theorem Lx{A:Around}{s:Shared}{a b:Addr}{ns ms:List Int}(hu:A.units<cLine)(x:TupIs s.heap a ns)(y:TupIs s.heap b ms):SeqAt.EqAt A s (.ref a) (.ref b) (decide (ns=ms)):=
 λprog w E Q q=>xj (knd:=intKind prog w) hu x.key y.key q
def sX(K:c9)(H:Hp)(as:List Addr)(ms:List (List Int)):Prop:=as.length=ms.length/\∀(i:Nat)(a:Addr)(m:List Int),as[i]?=some a->ms[i]?=some m->c8 K H a (m.map V.int)
section
variable{X:Cx}{pins:List (Addr×Obj)}{σ:L2.St}{H:Hp}{s:Shared}
theorem g0(I:L2.Inv X pins σ H s){a:Addr}{ns:List Int}(h:c8 X.K H a (ns.map V.int)):TupIs s.heap a ns:=by
 obtain⟨bU,r,p,_⟩:=I.tuple h;exact⟨bU,p,intsAre_of r⟩
open Classical in
noncomputable def II (h:Heap) (ns:List Int) (v:Value):Bool:=decide (∃a,v=.ref a/\TupIs h a ns)
open Classical in
theorem F4{h:Heap}{ns ms:List Int}{a:Addr}(x:TupIs h a ms):II h ns (.ref a)=decide (ms=ns):=by
 unfold II
 by_cases e:ms=ns
 ·rw[aJ e,aJ ⟨a,rfl,e▸x⟩]
 ·rw[aD e,aD]
  rintro⟨b,q,y⟩;cases q;exact e (x.inj y)
theorem lh:∀{as:List Addr}{us:List Value},Vals (as.map V.ref) us->us=as.map Value.ref
 | [],_,.nil=>rfl
 |a::as,_,.cons r t=>by
  cases r;rw[lh t];rfl
theorem CU{h:Heap}{ns:List Int}:∀{as:List Addr}{ms:List (List Int)},as.length=ms.length->(∀(i:Nat)(a:Addr)(m:List Int),as[i]?=some a->ms[i]?=some m->TupIs h a m)->(as.map Value.ref).any (II h ns)=decide (ns∈ms)
 | [],[],_,_=>by simp
 | [],_::_,e,_=>by simp at e
 |_::_,[],e,_=>by simp at e
 |a::as,m::ms,e,k=>by
  rw[aT,ic,F4 (k 0 a m rfl rfl),CU (as:=as) (ms:=ms) (by simpa using e) λi a m h1 h2=>k (i+1) a m (by simpa using h1) (by simpa using h2)]
  by_cases q:m=ns
  ·simp[q]
  ·have q':¬ns=m:=λz=>q z.symm
   simp[q,q']
theorem Bi{h:Heap}{ns:List Int}:∀{as:List Addr}{ms:List (List Int)},as.length=ms.length->(∀(i:Nat)(a:Addr)(m:List Int),as[i]?=some a->ms[i]?=some m->TupIs h a m)->(as.map Value.ref).countP (II h ns)=ms.countP λm=>decide (m=ns)
 | [],[],_,_=>by simp
 | [],_::_,e,_=>by simp at e
 |_::_,[],e,_=>by simp at e
 |a::as,m::ms,e,k=>by
  rw[aT,List.countP_cons,List.countP_cons,F4 (k 0 a m rfl rfl),Bi (as:=as) (ms:=ms) (by simpa using e) λi a m h1 h2=>k (i+1) a m (by simpa using h1) (by simpa using h2)]
theorem tH(I:L2.Inv X pins σ H s){as:List Addr}{ms:List (List Int)}(h:sX X.K H as ms):∀(i:Nat)(a:Addr)(m:List Int),as[i]?=some a->ms[i]?=some m->TupIs s.heap a m:=λi a m h1 h2=>g0 I (h.2 i a m h1 h2)
theorem Bw(I:L2.Inv X pins σ H s){A:Around}(hu:A.units<cLine){as:List Addr}{ms:List (List Int)}(h:sX X.K H as ms){a:Addr}{ns:List Int}(ha:TupIs s.heap a ns):∀v∈as.map Value.ref,SeqAt.EqAt A s v (.ref a) (II s.heap ns v):=λv hv=>by
 obtain⟨b,hb,rfl⟩:=aV.mp hv;obtain⟨i,hi,e⟩:=a8.mp hb;have h1:as[i]?=some b:=by rw[ae hi,e]
 have hm:i<ms.length:=by rw[<-h.1];exact hi
 have hT:=tH I h i b ms[i] h1 (ae hm);rw[F4 hT];exact Lx hu hT ha
end
def PX(K:c9)(neg:Bool):R2:=λx y H Q=>∃p a as ns ms,x=.ref a/\y=.ref p/\cG K H p (as.map V.ref)/\c8 K H a (ns.map V.int)/\sX K H as ms/\Q (.bl (if neg then !decide (ns∈ms)else decide (ns∈ms))) H
theorem FT{X:Cx}(hu:X.A.units+1<cLine):oX X (compareOp .In) (PX X.K false):=by
 intro pins s σ H x y v u Q I rx ry h;obtain⟨p,a,as,ns,ms,rfl,rfl,hl,ht,hm,q⟩:=h;cases rx;cases ry;obtain⟨bU,r,pl,_⟩:=I.list hl;have e:=lh r;subst e;have ha:=g0 I ht;refine SeqAt.in_listAt (II s.heap ns) pl.isList (λv hv=>Bw I (A:=X.A.in1) hu hm ha v (by simpa using hv)) ⟨.bl _,H,I,rfl,?_⟩;rw[show(as.map Value.ref).toArray.any (II s.heap ns)=(as.map Value.ref).any (II s.heap ns) by simp,CU hm.1 (tH I hm)]
 exact q
theorem vg{X:Cx}(hu:X.A.units+1<cLine):oX X (compareOp .NotIn) (PX X.K true):=by
 intro pins s σ H x y v u Q I rx ry h;obtain⟨p,a,as,ns,ms,rfl,rfl,hl,ht,hm,q⟩:=h;cases rx;cases ry;obtain⟨bU,r,pl,_⟩:=I.list hl;have e:=lh r;subst e;have ha:=g0 I ht;refine SeqAt.notIn_listAt (II s.heap ns) pl.isList (λv hv=>Bw I (A:=X.A.in1) hu hm ha v (by simpa using hv)) ⟨.bl _,H,I,rfl,?_⟩;rw[show(as.map Value.ref).toArray.any (II s.heap ns)=(as.map Value.ref).any (II s.heap ns) by simp,CU hm.1 (tH I hm)]
 exact q
def M7(K:c9):V->List V->Hp->VK->Prop:=λx vs H Q=>∃p a as ns ms,x=.ref p/\vs=[.ref a]/\cG K H p (as.map V.ref)/\c8 K H a (ns.map V.int)/\sX K H as ms/\Q (.int ((ms.countP λm=>decide (m=ns):Nat):Int)) H
theorem Iy{X:Cx}(hu:X.A.units+64<cLine):Xu X "list.count" (M7 X.K):=by
 intro pins s σ H x xs v us Q I rx rxs h;obtain⟨p,a,as,ns,ms,rfl,rfl,hl,ht,hm,q⟩:=h;cases rx;obtain⟨u,rfl,ru⟩:=Vals.one rxs;cases ru;obtain⟨bU,r,pl,_⟩:=I.list hl;have e:=lh r;subst e;have ha:=g0 I ht;obtain⟨⟨cls,dd,data,sl⟩,ho,hc,n,hd⟩:=id pl.isList;simp only at hc hd;subst hc hd;refine call_meets PySem.F.slot_list_count ⟨_,ho,rfl⟩ PySem.F.entry_list_count (PySem.F.args_list_count_2 _ _) (SeqAt.list_countAt p _ n dd sl (.ref a) (II s.heap ns)) ⟨ho,λv hv=>Bw I (A:=X.A.in1) (by show X.A.units+1<cLine;omega) hm ha v (by simpa using hv),?_⟩;have e:(as.map Value.ref).toArray.toList.countP (II s.heap ns)=ms.countP λm=>decide (m=ns):=by
  rw[show(as.map Value.ref).toArray.toList=as.map Value.ref by simp,Bi hm.1 (tH I hm)]
 rw[e];exact⟨.int _,H,I.tok _,⟨s.toks,rfl⟩,q⟩
theorem Gs{X:Cx}:jC X (.type "dict") (λxs H Q=>∃a bJ,xs=[V.ref a]/\Rd H a (.dK bJ)/\∀p,H p=none->Q (.ref p) (upd H p (.dK bJ))):=by
 intro pins s σ H xs us Q I r h;obtain⟨a,bJ,rfl,ha,q⟩:=h;rw[Vals.yl r];exact LF I ha λp s' hp I'=>⟨.ref p,_,I',rfl,q p hp⟩
theorem ID{prog:Program}{w:World}{K:Type} [DecidableEq K]{knd:HeapKind prog w K}{A:Around}{E:fw}{s:Shared}{d:Addr}{xs:List (K×Addr×Value)}{Q:fw}(hd:(d==sysModules)=false)(hm:s.heap.DictOfH knd d xs)(hfit:(xs.length:Int)<2^63)
  (h:Q (.int xs.length (s.toks+1)) {s with toks:=s.toks+1+1}):wpAny (model prog w) A (call (.builtin "len") [.ref d]) Q E s:=by
 refine zL kind_len plain_len entry_len (args_len1 _) ?_;obtain⟨o,es,ep,ho,hc,WR,he,_,_⟩:=id hm;have sz:es.size=xs.length:=by rw[<-bh,he,ab]
 have mt:MeetsIn prog w (Builtin.«dict.__len__» ⟨[.ref d],[]⟩) (λ_ R s=>s.heap.get? d=some o/\R (.ok (.ret (.int xs.length s.toks))) {s with toks:=s.toks+1}):=
  .of_wp λA R s⟨ho,h⟩=>by
   show wpAny _ _ (dictSize d>>=_) _ _ s;unfold dictSize;refine aa (aa (wpAny_dictEntries ho WR (aj ?_)));show wpAny _ _ (Builtin.Dict.pendingCount d>>=_) _ _ s;refine aa (wpAny_pendingCount_other hd ?_);refine wpAny_ret_mkInt ?_;rw[Jz,sz];exact h
 unfold Builtin.«len»;refine aa (m:=oneArg "len" _) (aj ?_);refine aa (m:=callSpecial? (.ref d) (Str.ofString "__len__")) (eZ (name:=Str.ofString "__len__") hm.typeIs F.slot_dict_len
  (call_meetsIn F.slot_dict_len hm.typeIs F.entry_dict_len (F.args_dict_len_1 _) mt ⟨ho,?_⟩))
 show wpAny _ _ _ _ _ {s with toks:=s.toks+1};refine aa (dX (aj ?_));refine aa (Jx ?_);show wpAny _ _ (if((xs.length:Nat):Int)<0 then _ else _) _ _ _;rw[aw (by omega)];show wpAny _ _ (if((xs.length:Nat):Int)>=2^63 then _ else _) _ _ _;rw[aw (by omega)];exact aa (wpAny_mkInt (aj ⟨_,rfl,h⟩))
theorem Jn{X:Cx}:jC X (.builtin "len") (λxs H Q=>∃a bJ,xs=[V.ref a]/\H a=some (.dT bJ)/\Q (.int bJ.length) H):=by
 intro pins s σ H xs us Q I r h;obtain⟨a,bJ,rfl,ha,q⟩:=h;rw[Vals.yl r];obtain⟨z,hd,ys,rel,dd⟩:=OR I.dy ha;have hl:bJ.length=ys.length:=j8 rel;refine ID hd dd (by rw[<-hl];rw[bo]at z;omega) ⟨.int bJ.length,H,I.tok _,⟨_,by rw[hl]⟩,q⟩
theorem Ax{bJ:List (Key×V)}{ns:List Int}{vs:List (Key×Value)}{P:Program}{w:World}(hk:bJ.map (·.1)=ns.map Sum.inl)(r:KV bJ vs):∀(acc:List Value),acc.length=vs.length->(∀(i:Nat)(v:Value),acc[i]?=some v->∃k x,vs[i]?=some (k,x)/\(d9 P w).is k v=true)->IntsAre acc ns:=by
 have QR:vs.map (·.1)=ns.map Sum.inl:=by rw[<-r.keys];exact hk
 clear hk r
 induction vs generalizing ns with
 |nil=>
  intro acc hl _;cases ns with
  |nil=>rw[fN hl];exact .nil
  |cons _ _=>cases QR
 |cons p vs ih=>
  intro acc hl h;cases ns with
  |nil=>cases QR
  |cons n ns=>
   cases acc with
   |nil=>cases hl
   |cons v acc=>
    rw[aT,aT]at QR;injection QR with e1 e2
    obtain⟨k,x,e3,e4⟩:=h 0 v rfl;have e5:p=(k,x):=by simpa using e3
    rw[e5]at e1;have e6:k=Sum.inl n:=e1;subst e6;obtain⟨t,e7⟩:=Value.isInt_shape (k:=n) (v:=v) e4;subst e7;exact .cons n t (ih e2 acc (by simpa using hl) λi v hv=>by simpa using h (i+1) v (by simpa using hv))
theorem sQ{X:Cx}(hc:X.calm=true):jC X (.builtin "sorted") (λxs H Q=>∃(a:Addr)(bJ:List (Key×V))(ns:List Int),xs=[V.ref a]/\Rd H a (.dK bJ)/\bJ.map (·.1)=ns.map Sum.inl/\ns.length<64/\
  ∀(jf:List Int)(p:Addr),jf.Perm ns->jf.Pairwise (· <= ·)->H p=none->Q (.ref p) (upd H p (.lst (jf.map V.int)))):=by
 intro pins s σ H xs us Q I r h;obtain⟨a,bJ,ns,rfl,ha,hk,OM,q⟩:=h;rw[Vals.yl r];obtain⟨z,hd,vs,rel,dd⟩:=uC I.dy ha;have hl:bJ.length=vs.length:=rel.length;refine PbSet.xX (ns:=ns) OM (λA' E' R hA hR=>?_) λh' tk D out c jf k sz e h1 h2 h3=>?_
 ·refine PbC.CI (hA.trans (I.ok.hd hc)) hd dd (by rw[<-hl];exact z) λh' tk acc sz k CB=>hR h' tk _ sz k ⟨ns,Ax (P:=X.prog) (w:=X.w) hk rel _ (by rw[bh];exact CB.1) λi v hv=>CB.2 i v (by rw[<-dA];exact hv),C6 _⟩
 ·have hlen:(jf.map V.int).length<=sizeLine:=by rw[ab,h2.length_eq];exact BA OM
  exact⟨.ref D,upd H D (.lst (jf.map V.int)),I.laid k sz ⟨hlen,out.toList,c,ie h1,by simpa using e⟩,rfl,q jf _ h2 h3 (I.dy.fresh sz)⟩
theorem QH{prog:Program}{w:World}:PbSet.Hv (intKind prog w):=λk v h=>by
 obtain⟨t,e⟩:=Value.isInt_shape (k:=k) (v:=v) h;subst e;rfl
def sY(w:World)(o:Obj)(vs:List Value):Prop:=∃es ep t,o.ExactSet/\o.data=.set es ep t/\t.fits es.size=true/\PbSet.qj t.place/\PbSet.Bt w t/\es.size<=12/\vs=es.toList.map (·.2)
theorem sY.walk{w:World}{o:Obj}{vs:List Value}(S:sY w o vs){h:Heap}{x:Addr}(e:h.get? x=some o):∃es ep t,PbSet.gI w h x o es ep t/\es.size<=12/\vs=es.toList.map (·.2):=by
 obtain⟨es,ep,t,h1,h2,h3,h4,h5,h6,h7⟩:=S;exact⟨es,ep,t,⟨e,h1,h2,h3,h4,λz=>(h5 z).1,λz=>(h5 z).2⟩,h6,h7⟩
abbrev oO(p:Addr)(o:Obj):HO:=.ext λh=>h.get? p=some o
theorem sG{P:Program}{w:World}{H:Hp}{h:Heap}{p:Addr}{o:Obj}(e:h.get? p=some o):fz P w H h p (oO p o):=⟨e,⟨o,e⟩,λh1 h2 a b=>b o a⟩
theorem vA{X:Cx}{pins:List (Addr×Obj)}{σ:L2.St}{H:Hp}{s:Shared}{p:Addr}{o:Obj}(I:L2.Inv X pins σ H s)(e:H p=some (oO p o)):s.heap.get? p=some o:=(I.dy p _ e).1
def OZ(vs:List Value)(ks:List Int):Prop:=(∀v∈vs,∃k∈ks,∃t,v=Value.int k t)/\(∀k∈ks,∃v∈vs,∃t,v=Value.int k t)/\ks.Nodup/\vs.length=ks.length
def OY(K:c9)(H:Hp)(vs:List Value)(ks:List (List Int)):Prop:=(∀v∈vs,∃k∈ks,∃a,v=Value.ref a/\c8 K H a (k.map V.int))/\(∀k∈ks,∃v∈vs,∃a,v=Value.ref a/\c8 K H a (k.map V.int))/\ks.Nodup/\vs.length=ks.length
def Sy(X:Cx):List V->Hp->VK->Prop:=λxs H Q=>∃(l:Addr)(ns:List Int),xs=[V.ref l]/\cG X.K H l (ns.map V.int)/\ns.length<=12/\
 ∀p o vs ks,H p=none->sY X.w o vs->OZ vs ks->(∀x,x∈ks↔x∈ns)->Q (.ref p) (upd H p (oO p o))
theorem Jk{X:Cx}(hc:X.calm=true):jC X (.type "set") (Sy X):=by
 intro pins s σ H xs us Q I r h;obtain⟨l,ns,rfl,hl,RO,q⟩:=h;rw[Vals.yl r];obtain⟨bU,rv,pl,hz⟩:=I.list hl;have hi:=rv.ints;have hlen:=rv.length;rw[ab]at hlen;refine PbSet.AE (kt:=λi=>ns.getD i 0) (I.ok.hd hc) pl.isList (λi v hv=>IntsAre.int_at hi i v (by simpa using hv)) (by rw[aU,<-hlen];exact RO) λh' tk Z k=>?_
 obtain⟨o,es,ep,t,W,N,hs⟩:=Z.xQ (by rw[aU];exact bf (PbSet.yI _ _) (by rw[<-hlen];exact RO));refine⟨.ref s.heap.objs.size,_,I.laid (t':=tk) (λb ob e=>k b ob (aM e) e) (ay _) (sG W.ho),rfl,q _ o (es.toList.map (·.2)) _ (I.dy.fresh (ay _)) ⟨es,ep,t,W.ex,W.hd,W.fit,W.rise,λz=>⟨W.led z,W.plain z⟩,hs,rfl⟩ ⟨λv hv=>?_,λk hk=>?_,N.nd,by rw[ab];exact N.len⟩ λx=>?_⟩
 ·obtain⟨e,he,rfl⟩:=aV.mp hv
  obtain⟨k,hk,t,e1,_⟩:=N.ex e he;exact⟨k,hk,t,e1⟩
 ·obtain⟨e,he,t,e1,_⟩:=N.all k hk
  exact⟨e.2,ff he,t,e1⟩
 ·rw[PbSet.D9,aU,<-hlen]
  constructor
  ·rintro⟨j,hj,e⟩
   rw[<-e,aE,ae hj];exact bL _
  ·intro hx
   obtain⟨j,hj,e⟩:=a8.mp hx;exact⟨j,hj,by rw[aE,ae hj,e];rfl⟩
def Sx(X:Cx):List V->Hp->VK->Prop:=λxs H Q=>∃(l:Addr)(as:List Addr)(ms:List (List Int)),xs=[V.ref l]/\cG X.K H l (as.map V.ref)/\sX X.K H as ms/\ms.length<=12/\
 ∀p o vs ks,H p=none->sY X.w o vs->OY X.K (upd H p (oO p o)) vs ks->(∀x,x∈ks↔x∈ms)->(ks.length=ms.length↔ms.Nodup)->Q (.ref p) (upd H p (oO p o))
theorem MB{K:c9}{H:Hp}{p a:Addr}{o:HO}{xs:List V}(h:H p=none)(e:c8 K H a xs):c8 K (upd H p o) a xs:=by
 rcases e with(e|⟨u,e⟩)|e
 ·exact .inl (.inl (by rw[aG (aR e h)];exact e))
 ·exact .inl (.inr ⟨u,by rw[aG (aR e h)];exact e⟩)
 ·exact .inr e
theorem Bk{X:Cx}(hc:X.calm=true)(hu:X.A.units+64<cLine):jC X (.type "set") (Sx X):=by
 intro pins s σ H xs us Q I r h;obtain⟨l,as,ms,rfl,hl,ht,RO,q⟩:=h;rw[Vals.yl r];obtain⟨bU,rv,pl,hz⟩:=I.list hl;have e:=lh rv;subst e;have RL:=ht.1;have key:∀(i:Nat)(v:Value),(as.map Value.ref).toArray[i]?=some v->∃a,v=.ref a/\as[i]?=some a/\IsTupleKey (intKind X.prog X.w) s.heap (ms.getD i []) a:=λi v hv=>by
  have QI:(as.map Value.ref)[i]?=some v:=by simpa using hv
  rw[aW]at QI;obtain⟨a,ha,rfl⟩:=bO.mp QI;have hi:=(aN.mp ha).1
  have hm:i<ms.length:=by rw[<-RL];exact hi
  refine⟨a,rfl,ha,?_⟩;rw[aE,ae hm];exact(tH I ht i a ms[i] ha (ae hm)).key
 refine PbSet.AD (knd:=intKind X.prog X.w) QH (kt:=λi=>ms.getD i []) (I.ok.hd hc) pl.isList (λi v hv=>let⟨a,e1,_,e3⟩:=key i v hv;⟨a,e1,e3⟩) (by rw[aU,ab,RL];exact RO) hu λh' tk Z k=>?_
 have hsz:(as.map Value.ref).toArray.size=ms.length:=by rw[aU,ab,RL]
 rw[hsz]at Z;obtain⟨o,es,ep,t,W,N,hs,hV⟩:=PbSet.xg.xQ Z (bf (PbSet.xC _ _) RO);have hp:=I.dy.fresh (ay s.heap.objs.size);have old:∀e∈es.toList,∀k,PbSet.Ent (intKind X.prog X.w) h' e k->∃a,e.2=.ref a/\c8 X.K (upd H s.heap.objs.size (oO s.heap.objs.size o)) a (k.map V.int):=λe he kk hk=>by
  obtain⟨_,gv⟩:=hV e he;obtain⟨a,e1,e2,_⟩:=hk;rw[e1]at gv;have Ti:Value.ref a∈as.map Value.ref:=by simpa using gv
  obtain⟨i,hi,ei⟩:=a8.mp Ti;have hv:(as.map Value.ref)[i]?=some (.ref a):=by rw[ae hi,ei]
  obtain⟨a',e3,e4,e5⟩:=key i (.ref a) (by simpa using hv);cases e3;have hm:i<ms.length:=by rw[<-RL];simpa using hi
  have lT:a<s.heap.objs.size:=by obtain⟨o,_,_,ho,_⟩:=e5;exact aM ho
  have e6:IsTupleKey (intKind X.prog X.w) h' (ms.getD i []) a:=PbSet.pU e5 λob q=>k a ob lT q
  have e7:kk=ms.getD i []:=e2.inj e6;refine⟨a,e1,?_⟩;rw[e7,aE,ae hm];exact MB hp (ht.2 i a ms[i] e4 (ae hm))
 have mem:∀x,x∈PbSet.met (λi=>ms.getD i []) ms.length↔x∈ms:=λx=>by
  rw[PbSet.qv];constructor
  ·rintro⟨j,hj,e⟩
   rw[<-e];show ms.getD j []∈ms;rw[aE,ae hj];exact bL _
  ·intro hx
   obtain⟨j,hj,e⟩:=a8.mp hx;exact⟨j,hj,by show ms.getD j []=x;rw[aE,ae hj,e];rfl⟩
 refine⟨.ref s.heap.objs.size,_,I.laid (t':=tk) (λb ob e=>k b ob (aM e) e) (ay _) (sG W.ho),rfl,q _ o (es.toList.map (·.2)) _ hp ⟨es,ep,t,W.ex,W.hd,W.fit,W.rise,λz=>⟨W.led z,W.plain z⟩,hs,rfl⟩ ⟨λv hv=>?_,λkk hk=>?_,N.nd,by rw[ab];exact N.len⟩ mem ?_⟩
 ·obtain⟨e,he,rfl⟩:=aV.mp hv
  obtain⟨kk,hk,e1⟩:=N.ex e he;exact⟨kk,hk,old e he kk e1⟩
 ·obtain⟨e,he,e1⟩:=N.all kk hk
  exact⟨e.2,ff he,old e he kk e1⟩
 ·rw[PbSet.Ha]
  constructor
  ·intro hd
   rw[bN,cD];intro i j hi hj Es e;refine hd i j Es hj ?_;show ms.getD i []=ms.getD j [];rw[aE,ae hi,aE,ae hj,e]
  ·intro hn a b Gd hb e
   rw[bN,cD]at hn;have ha:a<ms.length:=Nat.lt_trans Gd hb;refine hn a b ha hb Gd ?_;have e':ms.getD a []=ms.getD b []:=e;rw[aE,ae ha,aE,ae hb]at e';exact e'
theorem Jo{X:Cx}:jC X (.builtin "len") (λxs H Q=>∃p o vs,xs=[V.ref p]/\H p=some (oO p o)/\sY X.w o vs/\Q (.int (vs.length:Nat)) H):=by
 intro pins s σ H xs us Q I r h;obtain⟨p,o,vs,rfl,hp,S,q⟩:=h;rw[Vals.yl r];obtain⟨es,ep,t,W,hs,rfl⟩:=S.walk (vA I hp);refine call_len_set W.ho W.ex W.hd W.fit (by omega) ⟨.int _,H,I.tok _,⟨_,rfl⟩,?_⟩;rw[ab,bh]at q;exact q
theorem EH{X:Cx}(hc:X.calm=true):jC X (.builtin "sorted") (λxs H Q=>∃(p:Addr)(o:Obj)(vs:List Value)(ks:List Int),xs=[V.ref p]/\H p=some (oO p o)/\sY X.w o vs/\OZ vs ks/\
  ∀(jf:List Int)(p:Addr),jf.Perm ks->jf.Pairwise (· <= ·)->H p=none->Q (.ref p) (upd H p (.lst (jf.map V.int)))):=by
 intro pins s σ H xs us Q I r h;obtain⟨p,o,vs,ks,rfl,hp,S,V1,q⟩:=h;rw[Vals.yl r];obtain⟨es,ep,t,W,hs,e⟩:=S.walk (vA I hp);subst e;have hl:ks.length<=12:=by rw[<-V1.2.2.2,ab,bh];exact hs
 refine PbSet.xX (ns:=ks) (by omega) (λA' E' R hA hR=>?_) λh' tk D out c jf k sz e h1 h2 h3=>?_
 ·refine PbSet.zl (hA.trans (I.ok.hd hc)) W (by rw[bo];omega) λh' tk vs sz k pm=>hR h' tk vs sz k ?_
  refine PbSet.Ct (λv hv=>V1.1 v (pm.mem_iff.mp hv)) (λk hk=>?_) V1.2.2.1 (pm.length_eq.trans V1.2.2.2);obtain⟨v,hv,t,e⟩:=V1.2.1 k hk;exact⟨v,pm.mem_iff.mpr hv,t,e⟩
 ·have hlen:(jf.map V.int).length<=sizeLine:=by rw[ab,h2.length_eq];exact BA (by omega)
  exact⟨.ref D,upd H D (.lst (jf.map V.int)),I.laid k sz ⟨hlen,out.toList,c,ie h1,by simpa using e⟩,rfl,q jf _ h2 h3 (I.dy.fresh sz)⟩
end Pr
namespace Pr
open PySem PySem.Spec PyProof.Rows L2 Vbptae
theorem kg{a b:Int}{A B:Prop}(h1:a=b->A)(h2:a≠b->B):if decide (V.int a=V.int b)=true then A else B:=by
 by_cases h:a=b
 ·rw[az (by rw[h];exact aJ rfl)];exact h1 h
 ·rw[aw (by intro q;have:=jG q;cases this;exact h rfl)];exact h2 h
theorem Ek{a b:Int}{A B:Prop}(h1:a≠b->A)(h2:a=b->B):if(!decide (V.int a=V.int b))=true then A else B:=by
 by_cases h:a=b
 ·rw[aw (by subst h;simp)];exact h2 h
 ·rw[az (by simpa using h)];exact h1 h
theorem jb{c A B:Prop} [Decidable c](h1:c->A)(h2:¬c->B):if decide c=true then A else B:=by
 by_cases h:c
 ·rw[az (aJ h)];exact h1 h
 ·rw[aw (by simpa using h)];exact h2 h
theorem gS{c A B:Prop} [Decidable c](h1:¬c->A)(h2:c->B):if(!decide c)=true then A else B:=by
 by_cases h:c
 ·rw[aw (by simpa using h)];exact h2 h
 ·rw[az (by simpa using h)];exact h1 h
theorem mY{b:Bool}{A B:Prop}(h1:b=true->A)(h2:b=false->B):if b=true then A else B:=by
 cases b with
 |true=>rw[az rfl];exact h1 rfl
 |false=>rw[aw aK];exact h2 rfl
theorem kK{b:Bool}{A B:Prop}(h1:b=false->A)(h2:b=true->B):if(!b)=true then A else B:=by
 cases b with
 |true=>exact iZ (h2 rfl)
 |false=>exact gU (h1 rfl)
theorem xa(a b:Int):decide (V.int a=V.int b)=decide (a=b):=by
 by_cases h:a=b
 ·subst h;simp
 ·rw[aD h,aD (by intro q;cases q;exact h rfl)]
theorem mU{tA tB:TT}{σ:L2.St}{H:Hp}{Q:Bool->Hp->Prop}(a b:Bool)(hA:∀Q':Bool->Hp->Prop,Q' a H->tA σ H Q')(hB:a=false->∀Q':Bool->Hp->Prop,Q' b H->tB σ H Q')(h:Q (a||b) H):Xz tA tB σ H Q:=by
 refine hA _ ?_;cases a with
 |true=>exact gU h
 |false=>exact iZ (hB rfl _ h)
theorem sU{tA tB:TT}{σ:L2.St}{H:Hp}{Q:Bool->Hp->Prop}(a b:Bool)(hA:∀Q':Bool->Hp->Prop,Q' a H->tA σ H Q')(hB:a=true->∀Q':Bool->Hp->Prop,Q' b H->tB σ H Q')(h:Q (a&&b) H):Sd tA tB σ H Q:=by
 refine hA _ ?_;cases a with
 |true=>exact gU (hB rfl _ h)
 |false=>exact iZ h
theorem xK{tA tB:TE}{σ:L2.St}{H:Hp}{Q:VK}(a b:Bool)(hA:∀Q':VK,Q' (.bl a) H->tA σ H Q')(hB:a=true->∀Q':VK,Q' (.bl b) H->tB σ H Q')(h:Q (.bl (a&&b)) H):GO tA tB σ H Q:=by
 refine hA _ ⟨_,rfl,?_⟩;cases a with
 |true=>exact gU (hB rfl _ h)
 |false=>exact iZ h
theorem Qa{tA tB:TE}{σ:L2.St}{H:Hp}{Q:VK}(a b:Bool)(hA:∀Q':VK,Q' (.bl a) H->tA σ H Q')(hB:a=false->∀Q':VK,Q' (.bl b) H->tB σ H Q')(h:Q (.bl (a||b)) H):R4 tA tB σ H Q:=by
 refine hA _ ⟨_,rfl,?_⟩;cases a with
 |true=>exact gU h
 |false=>exact iZ (hB rfl _ h)
def Kt(H H':Hp):Prop:=∀b xs,H b=some (.tup xs)->H' b=some (.tup xs)
theorem Kp.kt{H H':Hp}(h:Kp H H'):Kt H H':=λb xs e=>h _ _ e rfl
theorem Kt.lst{H:Hp}{D:Addr}{xs ys:List V}(e:H D=some (.lst xs)):Kt H (upd H D (.lst ys)):=λb zs h=>by
 rw[aG (cF h e (by intro q;cases q))];exact h
theorem _root_.L2.aS.kp{H H':Hp}(h:aS H H'):Kp H H':=λb o e _=>h b o e
theorem _root_.L2.aS.new{H:Hp}{p:Addr}{o:HO}(h:H p=none):aS H (upd H p o):=λb u e=>by rw[aG (aR e h)];exact e
theorem _root_.L2.aS.kl{H H':Hp}(h:aS H H'):Kl H H':=λb o e _=>h b o e
theorem _root_.L2.aS.AQ{K:c9}{H H':Hp}{a:Addr}{xs:List V}(e:aS H H')(h:c8 K H a xs):c8 K H' a xs:=e.kl.AQ h
theorem Kp.gG{H H':Hp}{D:Addr}{o:HO}(n:H D=none)(k:Kp H H'):Kp H (upd H' D o):=λb u e z=>by
 rw[aG (aR e n)];exact k b u e z
theorem _root_.L2.aS.gG{H H':Hp}{D:Addr}{o:HO}(n:H D=none)(k:aS H H'):aS H (upd H' D o):=λb u e=>by
 rw[aG (aR e n)];exact k b u e
structure Bs(R:Hp->Hp->Prop):Prop where
 refl:∀H,R H H
 trans:∀{H H1 H2},R H H1->R H1 H2->R H H2
 gG:∀{H H':Hp}{D:Addr}{ys:List V},H D=none->(H' D=none\/∃xs,H' D=some (.lst xs))->R H H'->R H (upd H' D (.lst ys))
 lst:∀{H H':Hp}{a:Addr}{xs:List V},R H H'->H a=some (.lst xs)->H' a=some (.lst xs)
 kt:∀{H H':Hp},R H H'->Kt H H'
theorem hC:Bs aS:=⟨aS.refl,λa b=>a.trans b,λn _ k=>k.gG n,λk e=>k _ _ e,λk=>k.kp.kt⟩
theorem XB{J:It}{n:Nat}{g:TG}{tt:TT}{te:TE}{vs:List Nat}{σ:L2.St}{H1:Hp}{D:Addr}{Qd:Hp->Prop}{R:Hp->Hp->Prop}(ok:Bs R)(hD:H1 D=none)(hn:n<=1000)(Iv:Nat->List V->Hp->Prop)(st:∀i acc H H',Kt H H'->Iv i acc H->Iv i acc H')(h0:Iv 0 [] H1)(hlen:∀i acc H,i<=n->Iv i acc H->acc.length<=i)
  (NK:∀i H,i<n->R H1 H->J.go i H)(ux:∀H,R H1 H->J.stop n H)
  (hs:∀i x H H' acc(N1:VK)(N0:Hp->Prop),i<n->R H1 H->Iv i acc H->J.Fm i H x H'->(∀y H4,R H H4->Iv (i+1) (acc++ [y]) H4->N1 y H4)->(∀H3,R H H3->Iv (i+1) acc H3->N0 H3)->
   g x (wipe σ vs) H' λmr H2=>wipe mr vs=wipe σ vs/\tt mr H2 λb H3=>if b=true then te mr H3 N1 else N0 H3)
  (hd:∀H acc,R H1 H->H D=some (.lst acc)->Iv n acc H->Qd H):
  ∃W:Nat->Nat->Hp->Prop,(∃m,W 0 m (upd H1 D (.lst [])))/\∀i m H,W i m H->
   (J.stop i H/\Qd H)\/(J.go i H/\∃Nx:Hp->Prop,(∀H',Nx H'->∃m',m'<m/\W (i+1) m' H')/\∀x H',J.Fm i H x H'->g x (wipe σ vs) H' λmr H2=>wipe mr vs=wipe σ vs/\tt mr H2 λb H3=>
    if b=true then te mr H3 λy H4=>∃acc,H4 D=some (.lst acc)/\acc.length<sizeLine/\Nx (upd H4 D (.lst (acc++ [y])))else Nx H3):=by
 let Pv:Nat->Hp->Prop:=λi H=>∃acc,R H1 H/\H D=some (.lst acc)/\Iv i acc H
 refine⟨λi m H=>m=n-i/\i<=n/\Pv i H,⟨n,by simp,bp _,[],ok.gG hD (.inl hD) (ok.refl _),ai,st 0 [] _ _ (ok.kt (ok.gG hD (.inl hD) (ok.refl _))) h0⟩,?_⟩;rintro i m H ⟨rfl,hi,acc,kp,e,iv⟩
 by_cases lT:i<n
 ·refine .inr ⟨NK i H lT kp,Pv (i+1),λH' p'=>⟨n-(i+1),by omega,rfl,lT,p'⟩,λx H' y=>?_⟩
  refine hs i x H H' acc _ _ lT kp iv y (λy H4 k4 iv4=>?_) λH3 k3 iv3=>?_
  ·have e4:=ok.lst k4 e
   refine⟨acc,e4,jL (bf (hlen i acc H hi iv) (by omega)),acc++ [y],ok.gG hD (.inr ⟨_,e4⟩) (ok.trans kp k4),ai,st _ _ _ _ (Kt.lst e4) iv4⟩
  ·exact⟨acc,ok.trans kp k3,ok.lst k3 e,iv3⟩
 ·have e':i=n:=by omega
  subst e';exact .inl ⟨ux H kp,hd H acc kp e iv⟩
theorem SU{J:It}{n:Nat}{g:TG}{te:TE}{vs:List Nat}{σ:L2.St}{H1:Hp}{D:Addr}{Qd:Hp->Prop}{R:Hp->Hp->Prop}(ok:Bs R)(hD:H1 D=none)(hn:n<=1000)(Iv:Nat->List V->Hp->Prop)(st:∀i acc H H',Kt H H'->Iv i acc H->Iv i acc H')(h0:Iv 0 [] H1)(hlen:∀i acc H,i<=n->Iv i acc H->acc.length<=i)
  (NK:∀i H,i<n->R H1 H->J.go i H)(ux:∀H,R H1 H->J.stop n H)
  (hs:∀i x H H' acc(N1:VK),i<n->R H1 H->Iv i acc H->J.Fm i H x H'->(∀y H4,R H H4->Iv (i+1) (acc++ [y]) H4->N1 y H4)->g x (wipe σ vs) H' λmr H2=>wipe mr vs=wipe σ vs/\te mr H2 N1)
  (hd:∀H acc,R H1 H->H D=some (.lst acc)->Iv n acc H->Qd H):
  ∃W:Nat->Nat->Hp->Prop,(∃m,W 0 m (upd H1 D (.lst [])))/\∀i m H,W i m H->
   (J.stop i H/\Qd H)\/(J.go i H/\∃Nx:Hp->Prop,(∀H',Nx H'->∃m',m'<m/\W (i+1) m' H')/\∀x H',J.Fm i H x H'->g x (wipe σ vs) H' λmr H2=>wipe mr vs=wipe σ vs/\JW mr H2 λb H3=>
    if b=true then te mr H3 λy H4=>∃acc,H4 D=some (.lst acc)/\acc.length<sizeLine/\Nx (upd H4 D (.lst (acc++ [y])))else Nx H3):=by
 refine XB ok hD hn Iv st h0 hlen NK ux (λi x H H' acc N1 N0 hi kp iv y h1 _=>?_) hd;simp only[JW,dD];exact hs i x H H' acc N1 hi kp iv y h1
theorem take_snoc{α:Type}{l:List α}{i:Nat}{x:α}(h:l[i]?=some x):l.take (i+1)=l.take i++ [x]:=by
 rw[List.take_succ,h];rfl
theorem Uy{α:Type}{J:It}{L:List α}{g:TG}{tt:TT}{te:TE}{vs:List Nat}{σ:L2.St}{H1:Hp}{D:Addr}{Qd:Hp->Prop}{R:Hp->Hp->Prop}(ok:Bs R)(hD:H1 D=none)(hn:L.length<=1000)(pr:α->Bool)(f:α->V)
  (NK:∀i H,i<L.length->R H1 H->J.go i H)(ux:∀H,R H1 H->J.stop L.length H)
  (hs:∀i a x H H'(N1:VK)(N0:Hp->Prop),L[i]?=some a->R H1 H->J.Fm i H x H'->(∀H4,R H H4->pr a=true->N1 (f a) H4)->(∀H3,R H H3->pr a=false->N0 H3)->
   g x (wipe σ vs) H' λmr H2=>wipe mr vs=wipe σ vs/\tt mr H2 λb H3=>if b=true then te mr H3 N1 else N0 H3)
  (hd:∀H,R H1 H->H D=some (.lst ((L.filter pr).map f))->Qd H):
  ∃W:Nat->Nat->Hp->Prop,(∃m,W 0 m (upd H1 D (.lst [])))/\∀i m H,W i m H->
   (J.stop i H/\Qd H)\/(J.go i H/\∃Nx:Hp->Prop,(∀H',Nx H'->∃m',m'<m/\W (i+1) m' H')/\∀x H',J.Fm i H x H'->g x (wipe σ vs) H' λmr H2=>wipe mr vs=wipe σ vs/\tt mr H2 λb H3=>
    if b=true then te mr H3 λy H4=>∃acc,H4 D=some (.lst acc)/\acc.length<sizeLine/\Nx (upd H4 D (.lst (acc++ [y])))else Nx H3):=by
 refine XB ok hD hn (λi acc _=>acc=((L.take i).filter pr).map f) (λ_ _ _ _ _ h=>h) rfl (λi acc _ _ e=>?_) NK ux (λi x H H' acc N1 N0 hi kp e y h1 h0=>?_) λH acc kp e1 e2=>hd H kp ?_
 ·rw[e,ab]
  exact bf (bu _ _) (by rw[bW];exact Oa _ _)
 ·have ha:L[i]?=some L[i]:=ae hi
  refine hs i L[i] x H H' N1 N0 ha kp y (λH4 k4 e4=>h1 _ _ k4 ?_) (λH3 k3 e3=>h0 _ k3 ?_)
  ·rw[take_snoc ha,tm,dQ,az e4,zT,aZ,e];rfl
  ·rw[take_snoc ha,tm,dQ,aw (by rw[e3];exact aK),zT,fj,e]
 ·rw[e1,e2,cM]
theorem Ny{α:Type}{J:It}{L:List α}{g:TG}{te:TE}{vs:List Nat}{σ:L2.St}{H1:Hp}{D:Addr}{Qd:Hp->Prop}{R:Hp->Hp->Prop}(ok:Bs R)(hD:H1 D=none)(hn:L.length<=1000)(f:α->V)
  (NK:∀i H,i<L.length->R H1 H->J.go i H)(ux:∀H,R H1 H->J.stop L.length H)
  (hs:∀i a x H H'(N1:VK),L[i]?=some a->R H1 H->J.Fm i H x H'->(∀H4,R H H4->N1 (f a) H4)->
   g x (wipe σ vs) H' λmr H2=>wipe mr vs=wipe σ vs/\te mr H2 N1)
  (hd:∀H,R H1 H->H D=some (.lst (L.map f))->Qd H):
  ∃W:Nat->Nat->Hp->Prop,(∃m,W 0 m (upd H1 D (.lst [])))/\∀i m H,W i m H->
   (J.stop i H/\Qd H)\/(J.go i H/\∃Nx:Hp->Prop,(∀H',Nx H'->∃m',m'<m/\W (i+1) m' H')/\∀x H',J.Fm i H x H'->g x (wipe σ vs) H' λmr H2=>wipe mr vs=wipe σ vs/\JW mr H2 λb H3=>
    if b=true then te mr H3 λy H4=>∃acc,H4 D=some (.lst acc)/\acc.length<sizeLine/\Nx (upd H4 D (.lst (acc++ [y])))else Nx H3):=by
 let Iv:Nat->List V->Hp->Prop:=λi acc _=>acc=(L.take i).map f
 let Pv:Nat->Hp->Prop:=λi H=>∃acc,R H1 H/\H D=some (.lst acc)/\acc=(L.take i).map f
 refine⟨λi m H=>m=L.length-i/\i<=L.length/\Pv i H,⟨L.length,by simp,bp _,[],ok.gG hD (.inl hD) (ok.refl _),ai,rfl⟩,?_⟩;rintro i m H ⟨rfl,hi,acc,kp,e,iv⟩
 by_cases lT:i<L.length
 ·refine .inr ⟨NK i H lT kp,Pv (i+1),λH' p'=>⟨L.length-(i+1),by omega,rfl,lT,p'⟩,λx H' y=>?_⟩
  have ha:L[i]?=some L[i]:=ae lT;have q:=hs i L[i] x H H' (λy H4=>∃acc,H4 D=some (.lst acc)/\acc.length<sizeLine/\Pv (i+1) (upd H4 D (.lst (acc++ [y])))) ha kp y λH4 k4=>?_
  ·simp only[JW,dD]
   exact q
  ·have e4:=ok.lst k4 e
   refine⟨acc,e4,jL ?_,acc++ [f L[i]],ok.gG hD (.inr ⟨_,e4⟩) (ok.trans kp k4),ai,?_⟩
   ·rw[iv,ab,bW];omega
   ·rw[take_snoc ha,aZ,iv];rfl
 ·have e':i=L.length:=by omega
  subst e';rw[iv,cM]at e;exact .inl ⟨ux H kp,hd H kp e⟩
theorem mH{J:It}{n:Nat}{g:TG}{tb:TS}{D:Ends}{σ:L2.St}{H:Hp}(Pv:Nat->L2.St->Hp->Prop)(h0:Pv 0 σ H)(NK:∀i σ H,i<n->Pv i σ H->J.go i H)(ux:∀σ H,Pv n σ H->J.stop n H)
  (hs:∀i x σ H H',i<n->Pv i σ H->J.Fm i H x H'->g x σ H' λmr H2=>tb {D with nx:=Pv (i+1),ct:=Pv (i+1),bk:=D.nx} mr H2)(hd:∀σ H,Pv n σ H->D.nx σ H):
  ∃W:Nat->Nat->L2.St->Hp->Prop,(∃m,W 0 m σ H)/\∀i m σ H,W i m σ H->
   (J.stop i H/\D.nx σ H)\/(J.go i H/\∃N:L2.St->Hp->Prop,(∀gO H',N gO H'->∃m',m'<m/\W (i+1) m' gO H')/\∀x H',J.Fm i H x H'->g x σ H' λmr H2=>tb {D with nx:=N,ct:=N,bk:=D.nx} mr H2):=by
 refine⟨λi m σ H=>m=n-i/\i<=n/\Pv i σ H,⟨n,by simp,bp _,h0⟩,?_⟩;rintro i m σ H ⟨rfl,hi,p⟩
 by_cases lT:i<n
 ·exact .inr ⟨NK i σ H lT p,Pv (i+1),λgO H' p'=>⟨n-(i+1),by omega,rfl,lT,p'⟩,λx H' y=>hs i x σ H H' lT p y⟩
 ·have e:i=n:=by omega
  subst e;exact .inl ⟨ux σ H p,hd σ H p⟩
theorem jR{K:c9}{a:Addr}{xs:List V}{i:Nat}{H:Hp}(h:cG K H a xs)(hi:i<xs.length):(Ud K a).go i H:=⟨xs,xs[i],h,ae hi⟩
theorem gr{K:c9}{a:Addr}{xs:List V}{H:Hp}(h:cG K H a xs):(Ud K a).stop xs.length H:=⟨xs,h,ay _⟩
theorem iz{K:c9}{a:Addr}{xs:List V}{i:Nat}{H H':Hp}{x:V}(h:cG K H a xs)(y:(Ud K a).Fm i H x H'):H'=H/\xs[i]?=some x:=⟨y.1,y.2 xs h⟩
theorem pV{d:Addr}{o:Obj}{bJ:List (Key×V)}{i:Nat}{H:Hp}(h:H d=some (.iV o (.dK bJ)))(hi:i<bJ.length):(U7 d o bJ).go i H:=⟨h,hi⟩
theorem kh{d:Addr}{o:Obj}{bJ:List (Key×V)}{H:Hp}(h:H d=some (.iV o (.dK bJ))):(U7 d o bJ).stop bJ.length H:=⟨h,ay _⟩
section
variable{X:Cx}{K:c9}
theorem gf{e:Expr}{ta:TE}{f:Str}{pos:Pos}(hK:X.K=K)(he:PE X e ta)(hb:attributeBase e f X.env (eval e X.env)=eval e X.env):PE X (.Attribute e f pos) (Mz K ta f):=by subst hK;exact aF he hb
theorem Ka(hK:X.K=K):Xq X (Sw K):=by subst hK;exact jZ
theorem zp(hK:X.K=K):jC X (.type "tuple") (λxs H Q=>∃p ys,xs=[.ref p]/\((cG K H p ys/\∀l,H l=none->Q (.ref l) (upd H l (.tup ys)))\/(c8 K H p ys/\Q (.ref p) H))):=by subst hK;exact cQ
theorem Hf(hK:X.K=K):U6 X (SA K):=by subst hK;exact dg
theorem G4(hK:X.K=K)(hu:X.A.units+1<cLine):oX X (compareOp .In) (PX K false):=by subst hK;exact FT hu
def Vu(K:c9):R2:=λx y H Q=>∃a b ns ms,x=.ref a/\y=.ref b/\c8 K H a (ns.map V.int)/\c8 K H b (ms.map V.int)/\Q (.bl (!HT.lexLt ms ns)) H
def Vw(K:c9):R2:=λx y H Q=>∃a b ns ms,x=.ref a/\y=.ref b/\c8 K H a (ns.map V.int)/\c8 K H b (ms.map V.int)/\Q (.bl (HT.lexLt ms ns)) H
theorem B8(hK:X.K=K)(hu:X.A.units<cLine):oX X (compareOp .LtE) (Vu K):=by subst hK;exact Qg hu
theorem B9(hK:X.K=K)(hu:X.A.units<cLine):oX X (compareOp .Gt) (Vw K):=by subst hK;exact Qh hu
theorem mf(hK:X.K=K)(hu:X.A.units<cLine):oX X (compareOp .Lt) (Sz K):=by subst hK;exact Qe hu
theorem Nm(hK:X.K=K)(hu:X.A.units+64<cLine):oX X (compareOp .Eq) (SD K):=by subst hK;exact Qi hu
theorem G0{es:List Expr}{k:Nat}{t:O0}{n:Nat}{pos:Pos}(hK:X.K=K)(hc:X.calm=true)(h:Ub X es t)(hn:(assignEach es X.env).length=n:=by rfl) (Em:(assignEach es X.env).findIdx? (·.1)=none:=by rfl):PG X (.Tuple es k pos) (TM K n t):=by subst hK;exact Km hc h hn Em
end
end Pr
namespace PbZ
open PySem PySem.Spec PyProof.Rows
section
variable{prog:Program}{w:World}{A:Around}{E:fw}{s:Shared}
theorem yE{j t:Addr}{i:Nat}{vs:Array Value}{x:Value}{Q:fw}(hj:s.heap.IsTupleIter j t i)(ht:s.heap.IsTuple t vs)(hx:vs[i]?=some x)
  (q:∀g,g.IsTupleIter j t (i+1)->Heap.SameBut j s.heap g->Q x {s with heap:=g}):wpAny (model prog w) A (Builtin.SmallTypes.nextOf (.ref j)) Q E s:=by
 obtain⟨o,ho,hc,hd⟩:=id hj;obtain⟨u,hu,_,m,hm⟩:=ht;unfold Builtin.SmallTypes.nextOf;refine aa (eZ (name:=Str.ofString "__next__") hj.typeIs kZ (dC kZ hj.typeIs F.entry_tuple_iterator_next ?_ (F.args_tuple_iterator_next_1 _)));show wpAny _ _ (field (.ref j) 0>>=_) _ _ s;refine aa (gN ho hd (x:=.ref t) rfl ?_);show wpAny _ _ (if(Value.ref t==Value.none)=true then _ else _) _ _ s;rw[aw (show¬(Value.ref t==Value.none)=true from aK)];show wpAny _ _ (field (.ref j) 1>>=_) _ _ s;refine aa (gN ho hd (x:=.int i 0) rfl ?_);show wpAny _ _ (seqItems? (.ref t)>>=_) _ _ s;refine aa (eM hu hm ?_);simp only[b9,hx];refine aa (xi ho hd (by simp) (aj ⟨x,rfl,aj (q _ ⟨_,eI _ ho (GH (Obj.data_mapFields hd _)),(Obj.cls_mapFields ..).trans hc,?_⟩ (eC ..))⟩))
 rw[Obj.data_mapFields hd];simp[rawInt]
theorem Iu{j t:Addr}{i:Nat}{vs:Array Value}{Q:fw}(hh:A.handled=none)(hj:s.heap.IsTupleIter j t i)(ht:s.heap.IsTuple t vs)(hx:vs[i]?=none)
  (q:∀g e,Heap.ExtBut j s.heap g->(∃o,g.get? e=some o/\o.cls=.type "StopIteration")->E (.ref e) {s with heap:=g}):wpAny (model prog w) A (Builtin.SmallTypes.nextOf (.ref j)) Q E s:=by
 obtain⟨o,ho,hc,hd⟩:=id hj;obtain⟨u,hu,_,m,hm⟩:=ht;unfold Builtin.SmallTypes.nextOf;refine aa (eZ (name:=Str.ofString "__next__") hj.typeIs kZ (dC kZ hj.typeIs F.entry_tuple_iterator_next ?_ (F.args_tuple_iterator_next_1 _)));show wpAny _ _ (field (.ref j) 0>>=_) _ _ s;refine aa (gN ho hd (x:=.ref t) rfl ?_);show wpAny _ _ (if(Value.ref t==Value.none)=true then _ else _) _ _ s;rw[aw (show¬(Value.ref t==Value.none)=true from aK)];show wpAny _ _ (field (.ref j) 1>>=_) _ _ s;refine aa (gN ho hd (x:=.int i 0) rfl ?_);show wpAny _ _ (seqItems? (.ref t)>>=_) _ _ s;refine aa (eM hu hm ?_);simp only[b9,hx];refine aa (nq (aa (xi ho hd (by simp) (show wpAny _ _ (newExc (.type "StopIteration") []>>=_) _ _ _ from aa ?_))));simp only[newExc,newTuple];refine aa (gy (aa (m:=firstArgMember _ _) (wpAny_of_eq (a:=Value.none) (by first|rfl|(simp only[firstArgMember];rfl)) (gy ?_ (by size_fits)))) (by size_fits));simp only[raiseNew];refine aa (wpAny_handled ?_)
 first|rw[show A.in1.handled=none from hh]|rw[hh]
 exact aa (aj (wpAny_throw (q _ _ (((eC ..).extBut.push _).push _) ⟨_,aO _ rfl,rfl⟩)))
theorem HE{z I O j k t l:Addr}{n m:Nat}{vs us:Array Value}{x y a b:Value}{Q:fw}(D:ZipApart z I O j k t l)(hz:IsZip s.heap z I O .none)(hI:IsPair s.heap I (.ref j) (.ref k))(hO:IsPair s.heap O a b)
  (h1:s.heap.IsTupleIter j t n)(h2:s.heap.IsListIter k l m)(ht:s.heap.IsTuple t vs)(hl:s.heap.IsList l us)(hx:vs[n]?=some x)(hy:us[m]?=some y)
  (q:∀g,IsZip g z I O (rawInt s.heap.objs.size)->IsPair g O x y->g.IsTupleIter j t (n+1)->g.IsListIter k l (m+1)->IsPair g s.heap.objs.size x y->g.objs.size=s.heap.objs.size+1->
   (∀c o,c≠z->c≠O->c≠j->c≠k->s.heap.get? c=some o->g.get? c=some o)->Q (.ref s.heap.objs.size) {s with heap:=g}):
  wpAny (model prog w) A (Builtin.«zip.__next__» ⟨[.ref z],[]⟩) (λfin s'=>∃v,fin=.done (.ret v)/\Q v s') E s:=by
 show wpAny _ _ (field (.ref z) 2>>=_) _ _ _;refine aa (gN hz rfl (x:=.bool false) rfl ?_);show wpAny _ _ (field (.ref z) 3>>=_) _ _ _;refine aa (gN hz rfl (x:=.ref I) rfl (aa (eM hI rfl ?_)));show wpAny _ _ (Builtin.SmallTypes.ownedTupleIsFree (.ref z)>>=_) _ _ _;refine aa ?_;unfold Builtin.SmallTypes.ownedTupleIsFree;refine aa (gN hz rfl (x:=.none) rfl (aj ?_));simp only[dD];refine aa (nq (aa (gN hz rfl (x:=.ref O) rfl (aa (jJ hz (by simp) λg1 e1 b1=>?_)))));have e1:IsZip g1 z I O .ellipsis:=e1;refine aa ?_;simp only[List.zipIdx_cons,List.zipIdx_nil,ly,jY];refine aa (aa (Mn (show wpAny _ _ (Builtin.SmallTypes.nextOf (.ref j)>>=_) _ _ _ from ?_)));refine aa (yE (h1.extBut b1.extBut D.i1z) (ht.extBut b1.extBut D.l1z) hx λg2 e2 b2=>aj ?_);have o2:IsPair g2 O a b:=b2.extBut _ _ D.TOi1 (b1.extBut _ _ D.TOz hO);refine aa (eM o2 rfl (aa (Jw o2 λg3 o3 b3=>aa (Jx (aj ?_)))));have o3:IsPair g3 O x b:=o3;refine aa (aa (Mn (show wpAny _ _ (Builtin.SmallTypes.nextOf (.ref k)>>=_) _ _ _ from ?_)));have k3:=((h2.extBut b1.extBut D.i2z).extBut b2.extBut D.i12.symm).extBut b3.extBut D.TOi2.symm
 have l3:=((hl.extBut b1.extBut D.l2z).extBut b2.extBut D.l2i1).extBut b3.extBut D.l2TO
 refine aa (wpAny_nextOf_list_item k3 l3 hy λg4 e4 b4=>aj ?_);have o4:IsPair g4 O x b:=b4.extBut _ _ D.TOi2 o3;refine aa (eM o4 rfl (aa (Jw o4 λg5 o5 b5=>aa (Jx (aj (aj ?_))))));have o5:IsPair g5 O x y:=o5;refine aa (eM o5 rfl (aa (wpAny_newTuple ?_)));have n5:g5.objs.size=s.heap.objs.size:=by rw[b5.1,b4.1,b3.1,b2.1,b1.1]
 have z5:IsZip g5 z I O .ellipsis:=b5.extBut _ _ D.TOz.symm (b4.extBut _ _ D.i2z.symm (b3.extBut _ _ D.TOz.symm (b2.extBut _ _ D.i1z.symm e1)));have old:∀c o,c≠z->c≠O->c≠j->c≠k->s.heap.get? c=some o->g5.get? c=some o:=λc o cz cO cj ck e=>b5.extBut _ _ cO (b4.extBut _ _ ck (b3.extBut _ _ cO (b2.extBut _ _ cj (b1.extBut _ _ cz e))))
 have j5:g5.IsTupleIter j t (n+1):=((e2.extBut b3.extBut D.TOi1.symm).extBut b4.extBut D.i12).extBut b5.extBut D.TOi1.symm
 have k5:g5.IsListIter k l (m+1):=e4.extBut b5.extBut D.TOi2.symm;have lz:z<g5.objs.size:=aM z5;show wpAny _ _ (Builtin.SmallTypes.ownedTupleHandOut (.ref z) (.ref g5.objs.size)>>=_) _ _ _;refine aa ?_;unfold Builtin.SmallTypes.ownedTupleHandOut;have z6:IsZip (g5.push {cls:=.type "tuple",data:=.seq #[x,y]}) z I O .ellipsis:=ak _ z5;refine aa (jJ z6 (by simp) λg7 z7 b7=>?_);have z7:IsZip g7 z I O (rawInt g5.objs.size):=z7;refine jJ z7 (by simp) λg8 z8 b8=>?_
 have z8:IsZip g8 z I O (rawInt g5.objs.size):=z8;have up:∀c o,c≠z->g5.get? c=some o->g8.get? c=some o:=λc o cz e=>b8.extBut _ _ cz (b7.extBut _ _ cz (ak _ e))
 have p8:IsPair g8 g5.objs.size x y:=b8.extBut _ _ (gx lz) (b7.extBut _ _ (gx lz) (aO _ rfl));have n8:g8.objs.size=g5.objs.size+1:=by rw[b8.1,b7.1,bT]
 rw[n5]at z8 p8 n8;refine aj ⟨_,rfl,(show Q (.ref g5.objs.size) _ from ?_)⟩;rw[n5];exact q g8 z8 (up _ _ D.TOz o5) (j5.at λo e=>up _ o D.i1z e) (k5.at λo e=>up _ o D.i2z e) p8 n8 λc o cz cO cj ck e=>up c o cz (old c o cz cO cj ck e)
theorem JP{z I O j k t l:Addr}{n m:Nat}{vs us:Array Value}{a b:Value}{Q:Fin->Shared->Prop}(hh:A.handled=none)(D:ZipApart z I O j k t l)(hz:IsZip s.heap z I O .none)(hI:IsPair s.heap I (.ref j) (.ref k))(hO:IsPair s.heap O a b)
  (h1:s.heap.IsTupleIter j t n)(h2:s.heap.IsListIter k l m)(ht:s.heap.IsTuple t vs)(hl:s.heap.IsList l us)(hx:vs[n]?=none\/us[m]?=none)
  (q:∀g e,(∀c o,c≠z->c≠O->c≠j->c≠k->s.heap.get? c=some o->g.get? c=some o)->(∃o,g.get? e=some o/\o.cls=.type "StopIteration")->E (.ref e) {s with heap:=g}):
  wpAny (model prog w) A (Builtin.«zip.__next__» ⟨[.ref z],[]⟩) Q E s:=by
 show wpAny _ _ (field (.ref z) 2>>=_) _ _ _;refine aa (gN hz rfl (x:=.bool false) rfl ?_);show wpAny _ _ (field (.ref z) 3>>=_) _ _ _;refine aa (gN hz rfl (x:=.ref I) rfl (aa (eM hI rfl ?_)));show wpAny _ _ (Builtin.SmallTypes.ownedTupleIsFree (.ref z)>>=_) _ _ _;refine aa ?_;unfold Builtin.SmallTypes.ownedTupleIsFree;refine aa (gN hz rfl (x:=.none) rfl (aj ?_));simp only[dD];refine aa (nq (aa (gN hz rfl (x:=.ref O) rfl (aa (jJ hz (by simp) λg1 e1 b1=>?_)))));have e1:IsZip g1 z I O .ellipsis:=e1;refine aa ?_;simp only[List.zipIdx_cons,List.zipIdx_nil,ly,jY];refine aa (aa (Mn (show wpAny _ _ (Builtin.SmallTypes.nextOf (.ref j)>>=_) _ _ _ from ?_)));cases hv:vs[n]? with
 |none=>
  refine aa (Iu hh (h1.extBut b1.extBut D.i1z) (ht.extBut b1.extBut D.l1z) hv λg2 e b2⟨o,ho,hc⟩=>?_);have z2:IsZip g2 z I O .ellipsis:=b2 _ _ D.i1z.symm e1;have ez:e≠z:=λx=>by rw[x,z2]at ho;cases ho;simp at hc
  exact jJ z2 (by simp) λg3 _ b3=>q g3 e (λc o cz _ cj _ x=>b3.extBut _ _ cz (b2 _ _ cj (b1.extBut _ _ cz x))) ⟨o,b3.extBut _ _ ez ho,hc⟩
 |some x=>
  have hu:us[m]?=none:=hx.resolve_left (by rw[hv];exact λh=>nomatch h);refine aa (yE (h1.extBut b1.extBut D.i1z) (ht.extBut b1.extBut D.l1z) hv λg2 e2 b2=>aj ?_);have o2:IsPair g2 O a b:=b2.extBut _ _ D.TOi1 (b1.extBut _ _ D.TOz hO);refine aa (eM o2 rfl (aa (Jw o2 λg3 o3 b3=>aa (Jx (aj ?_)))));refine aa (aa (Mn (show wpAny _ _ (Builtin.SmallTypes.nextOf (.ref k)>>=_) _ _ _ from ?_)));have k3:=((h2.extBut b1.extBut D.i2z).extBut b2.extBut D.i12.symm).extBut b3.extBut D.TOi2.symm
  have l3:=((hl.extBut b1.extBut D.l2z).extBut b2.extBut D.l2i1).extBut b3.extBut D.l2TO
  refine aa (wpAny_nextOf_list_end hh k3 l3 hu λg4 e b4⟨o,ho,hc⟩=>?_);have z4:IsZip g4 z I O .ellipsis:=b4 _ _ D.i2z.symm (b3.extBut _ _ D.TOz.symm (b2.extBut _ _ D.i1z.symm e1));have ez:e≠z:=λx=>by rw[x,z4]at ho;cases ho;simp at hc
  exact jJ z4 (by simp) λg5 _ b5=>q g5 e (λc o cz cO cj ck x=>b5.extBut _ _ cz (b4 _ _ ck (b3.extBut _ _ cO (b2.extBut _ _ cj (b1.extBut _ _ cz x))))) ⟨o,b5.extBut _ _ ez ho,hc⟩
theorem BN{z I O j k t l:Addr}{n m:Nat}{vs us:Array Value}{x y a b:Value}{Q:Option Value->Shared->Prop}(D:ZipApart z I O j k t l)(hz:IsZip s.heap z I O .none)(hI:IsPair s.heap I (.ref j) (.ref k))(hO:IsPair s.heap O a b)
  (h1:s.heap.IsTupleIter j t n)(h2:s.heap.IsListIter k l m)(ht:s.heap.IsTuple t vs)(hl:s.heap.IsList l us)(hx:vs[n]?=some x)(hy:us[m]?=some y)
  (q:∀g,IsZip g z I O (rawInt s.heap.objs.size)->IsPair g O x y->g.IsTupleIter j t (n+1)->g.IsListIter k l (m+1)->IsPair g s.heap.objs.size x y->g.objs.size=s.heap.objs.size+1->
   (∀c o,c≠z->c≠O->c≠j->c≠k->s.heap.get? c=some o->g.get? c=some o)->Q (some (.ref s.heap.objs.size)) {s with heap:=g}):wpAny (model prog w) A (pyNext (.ref z)) Q E s:=by
 have T:s.TypeIs (.ref z) "zip":=⟨_,hz,rfl⟩;unfold pyNext;exact aa (AF (eZ (name:=Str.ofString "__next__") T Fj (dC Fj T F.entry_zip_next (HE D hz hI hO h1 h2 ht hl hx hy λg c1 c2 c3 c4 c5 c6 c7=>aj (q g c1 c2 c3 c4 c5 c6 c7)) (F.args_zip_next_1 _))))
theorem DK{z I O j k t l:Addr}{n m:Nat}{vs us:Array Value}{a b:Value}{Q:Option Value->Shared->Prop}(hh:A.handled=none)(D:ZipApart z I O j k t l)(hz:IsZip s.heap z I O .none)(hI:IsPair s.heap I (.ref j) (.ref k))(hO:IsPair s.heap O a b)
  (h1:s.heap.IsTupleIter j t n)(h2:s.heap.IsListIter k l m)(ht:s.heap.IsTuple t vs)(hl:s.heap.IsList l us)(hx:vs[n]?=none\/us[m]?=none)
  (q:∀g,(∀c o,c≠z->c≠O->c≠j->c≠k->s.heap.get? c=some o->g.get? c=some o)->Q none {s with heap:=g}):wpAny (model prog w) A (pyNext (.ref z)) Q E s:=by
 have T:s.TypeIs (.ref z) "zip":=⟨_,hz,rfl⟩;unfold pyNext;exact aa (AF (eZ (name:=Str.ofString "__next__") T Fj (dC Fj T F.entry_zip_next (JP hh D hz hI hO h1 h2 ht hl hx λg e kk⟨o,ho,hc⟩=>aa (jd (T:="StopIteration") (b:=true) ⟨o,ho,hc⟩ isSubtype_stop (aj (q _ kk)))) (F.args_zip_next_1 _))))
abbrev gA(h:Heap)(t:Addr):Heap:=h.push {cls:=.type "tuple_iterator",data:=.fields #[.ref t,.int 0 0]}
abbrev gB(h:Heap)(t l:Addr):Heap:=(gA h t).push {cls:=.type "list_iterator",data:=.fields #[.ref l,.int 0 0]}
abbrev gC(h:Heap)(t l:Addr):Heap:=(gB h t l).push {cls:=.type "tuple",data:=.seq #[.ref h.objs.size,.ref (gA h t).objs.size]}
abbrev gD(h:Heap)(t l:Addr):Heap:=(gC h t l).push {cls:=.type "tuple",data:=.seq #[.none,.none]}
abbrev gE(h:Heap)(t l:Addr):Heap:=(gD h t l).push {cls:=.type "zip",data:=.fields #[.none,.bool false,.bool false,.ref (gB h t l).objs.size,.ref (gC h t l).objs.size]}
theorem KJ(t l:Addr)(vs us:Array Value):Meets (Builtin.«zip.__new__» ⟨[.type "zip",.ref t,.ref l],[]⟩) (λ_ R s=>s.heap.IsTuple t vs/\s.heap.IsList l us/\R (.ok (.ret (.ref (gD s.heap t l).objs.size))) {s with heap:=gE s.heap t l}):=
 .of_wp λprog w A R s h=>by
  obtain⟨hp,g,d,tk,os⟩:=s;obtain⟨ht,hl,h⟩:=h;have K8:=sub_zip;have p1:Heap.IsTuple (Shared.heap ⟨hp,g,d,tk,os⟩) t vs:=ht;have p2:Heap.IsList (Shared.heap ⟨hp.push {cls:=.type "tuple_iterator",data:=.fields #[.ref t,.int 0 0]},g,d,tk,os⟩) l us:=Heap.IsList.push hl _
  wp_walk using wpAny_pyIter_tuple p1,zQ p2
  exact⟨_,rfl,h⟩
theorem Jj{t l:Addr}{vs us:Array Value}{Q:fw}(ht:s.heap.IsTuple t vs)(hl:s.heap.IsList l us)
  (q:∀g,IsZip g (s.heap.objs.size+4) (s.heap.objs.size+2) (s.heap.objs.size+3) .none->IsPair g (s.heap.objs.size+2) (.ref s.heap.objs.size) (.ref (s.heap.objs.size+1))->IsPair g (s.heap.objs.size+3) .none .none->
   g.IsTupleIter s.heap.objs.size t 0->g.IsListIter (s.heap.objs.size+1) l 0->g.objs.size=s.heap.objs.size+5->(∀c o,s.heap.get? c=some o->g.get? c=some o)->Q (.ref (s.heap.objs.size+4)) {s with heap:=g}):
  wpAny (model prog w) A (call (.type "zip") [.ref t,.ref l]) Q E s:=by
 refine callType_new F.called_zip (by decide) (F.typeCall_zip_2 _ _) (F.newCall_zip_2 _ _) (λobj=>F.args_object_init_3 obj _ _) F.entry_zip_new (KJ t l vs us) ⟨ht,hl,?_⟩;have a1:(gA s.heap t).objs.size=s.heap.objs.size+1:=bT ..
 have a2:(gB s.heap t l).objs.size=s.heap.objs.size+2:=by rw[bT,a1]
 have a3:(gC s.heap t l).objs.size=s.heap.objs.size+3:=by rw[bT,a2]
 have a4:(gD s.heap t l).objs.size=s.heap.objs.size+4:=by rw[bT,a3]
 have a5:(gE s.heap t l).objs.size=s.heap.objs.size+5:=by rw[bT,a4]
 have u:=λ{h:Heap}{o:Obj}{c:Addr}{v:Obj}(e:h.get? c=some v)=>ak (h:=h) o e
 have b5:(gE s.heap t l).get? (gD s.heap t l).objs.size=some _:=aO _ rfl
 have b4:(gE s.heap t l).get? (gC s.heap t l).objs.size=some _:=u (aO _ rfl)
 have b3:(gE s.heap t l).get? (gB s.heap t l).objs.size=some _:=u (u (aO _ rfl))
 have b2:(gE s.heap t l).get? (gA s.heap t).objs.size=some _:=u (u (u (aO _ rfl)))
 have b1:(gE s.heap t l).get? s.heap.objs.size=some _:=u (u (u (u (aO _ rfl))))
 show _/\_;rw[a2,a3,a4]at b5;rw[a1,a2]at b3;rw[a3]at b4;rw[a1]at b2;rw[a4];exact⟨⟨_,b5,rfl⟩,q _ b5 b3 b4 ⟨_,b1,rfl,rfl⟩ ⟨_,b2,rfl,rfl⟩ a5 λc o x=>u (u (u (u (u x))))⟩
end
end PbZ
namespace Pr
open PySem PySem.Spec PyProof.Rows L2
def Uc(K:c9)(a b:Addr):It:=
 ⟨λi H=>∃xs ys x y,c8 K H a xs/\cG K H b ys/\xs[i]?=some x/\ys[i]?=some y,
  λi H v H'=>∃p x y,v=.ref p/\H p=none/\H'=upd H p (.tup [x,y])/\(∀xs,c8 K H a xs->xs[i]?=some x)/\∀ys,cG K H b ys->ys[i]?=some y,
  λi H=>∃xs ys,c8 K H a xs/\cG K H b ys/\(xs.length<=i\/ys.length<=i)⟩
theorem HH{P:Program}{w:World}{K:c9}{elts:List Expr}{kk:Nat}{uZ:Pos}{a b z I O j k:Addr}(D:ZipApart z I O j k a b):
  Turn P w K (.Tuple elts kk uZ) (Uc K a b) [z,I,O,j,k] z (λi h=>IsZip h z I O .none/\IsPair h I (.ref j) (.ref k)/\(∃x y,IsPair h O x y)/\h.IsTupleIter j a i/\h.IsListIter k b i) where
 mem:=by simp
 obj:=λi h st c hc=>by
  obtain⟨hz,hI,⟨x,y,hO⟩,⟨o1,e1,_,d1⟩,⟨o2,e2,_,d2⟩⟩:=st;have m:c=z\/c=I\/c=O\/c=j\/c=k:=by simpa using hc
  rcases m with rfl|rfl|rfl|rfl|rfl
  ·exact⟨_,hz,λv q=>nomatch q⟩
  ·exact⟨_,hI,λv q=>nomatch q⟩
  ·exact⟨_,hO,λv q=>nomatch q⟩
  ·exact⟨o1,e1,λv q=>by rw[d1]at q;cases q⟩
  ·exact⟨o2,e2,λv q=>by rw[d2]at q;cases q⟩
 keep:=λi h h'⟨hz,hI,⟨x,y,hO⟩,h1,h2⟩q=>⟨q z (by simp) _ hz,q I (by simp) _ hI,⟨x,y,q O (by simp) _ hO⟩,h1.at λo e=>q j (by simp) o e,h2.at λo e=>q k (by simp) o e⟩
 item:=by
  intro X hP hw hK hc i pins s σ H E J hf ⟨hz,hI,⟨x0,y0,hO⟩,h1,h2⟩ ⟨xs,ys,x,y,IL,IK,hx,hy⟩;subst hP hw hK;obtain⟨bU,rv,p,_⟩:=J.tuple IL;obtain⟨mE,MZ,p2,_⟩:=J.list IK;obtain⟨u,hu,ru⟩:=rv.get hx;obtain⟨u2,V8,Vp⟩:=MZ.get hy;have lz:z<s.heap.objs.size:=aM hz;refine PbZ.BN D hz hI hO h1 h2 (show s.heap.IsTuple a bU.toArray from p) p2.isList (x:=u) (y:=u2) (by simpa using hu) (by simpa using V8) λg z' O' IX JJ hT hsz hk=>?_
  refine⟨_,rfl,wpAny_letOwnedTupleGo_zip (s:={s with heap:=g}) z' λg2 z2 sb=>?_⟩;have T2:g2.get? s.heap.objs.size=some {cls:=.type "tuple",data:=.seq #[u,u2]}:=(sb.2 _ (gx lz)).trans hT
  have new:fz X.prog X.w (upd H s.heap.objs.size (.tup [x,y])) g2 s.heap.objs.size (.tup [x,y]):=⟨by show 2<=sizeLine;decide,[u,u2],.cons ru (.cons Vp .nil),⟨_,T2,rfl,_,rfl⟩⟩;have J1:L2.Inv X pins σ (upd H s.heap.objs.size (.tup [x,y])) {s with heap:=g2}:=J.uY (t':=s.toks) (ch:=[z,I,O,j,k]) (λc o hb q=>(sb.2 c (λe=>hb (by simp[e]))).trans (hk c o (λe=>hb (by simp[e])) (λe=>hb (by simp[e])) (λe=>hb (by simp[e])) (λe=>hb (by simp[e])) q)) hf (ay _) new
  refine⟨.ref s.heap.objs.size,_,J1,rfl,⟨_,x,y,rfl,J.dy.fresh (ay _),rfl,λl hl=>by rw[J.HM hl IL];exact hx,λl hl=>by rw[J.pR hl IK];exact hy⟩,⟨z2,(sb.2 _ D.TIz).trans (hk _ _ D.TIz D.TITO D.TIi1 D.TIi2 hI),⟨u,u2,(sb.2 _ D.TOz).trans O'⟩,IX.at λo q=>(sb.2 _ D.i1z).trans q,JJ.at λo q=>(sb.2 _ D.i2z).trans q⟩,λc Lg=>?_⟩
  have lt:c<s.heap.objs.size:=by
   have m:c=z\/c=I\/c=O\/c=j\/c=k:=(by simpa using Lg);rcases m with rfl|rfl|rfl|rfl|rfl
   ·exact lz
   ·exact aM hI
   ·exact aM hO
   ·obtain⟨_,e1,_⟩:=h1;exact aM e1
   ·obtain⟨_,e2,_⟩:=h2;exact aM e2
  rw[aG (a0 lt)];exact(hf c Lg).1
 done:=by
  intro X hP hw hK hc i pins s σ H E J hf ⟨hz,hI,⟨x0,y0,hO⟩,h1,h2⟩ ⟨xs,ys,IL,IK,QT⟩;subst hP hw hK;obtain⟨bU,rv,p,_⟩:=J.tuple IL;obtain⟨mE,MZ,p2,_⟩:=J.list IK;have l1:=rv.length;have l2:=MZ.length;have he:bU.toArray[i]?=none\/mE.toArray[i]?=none:=QT.imp (λq=>by simp;omega) λq=>by simp;omega
  exact PbZ.DK (J.ok.hd hc) D hz hI hO h1 h2 (show s.heap.IsTuple a bU.toArray from p) p2.isList he λg hk=>⟨rfl,J.GL (t':=s.toks) (ch:=[z,I,O,j,k]) (λc o hb q=>hk c o (λe=>hb (by simp[e])) (λe=>hb (by simp[e])) (λe=>hb (by simp[e])) (λe=>hb (by simp[e])) q) hf⟩
 self:=λA i s Q E st h=>C0 st.1 h
def S2(K:c9)(ta:TA):TI:=λσ H R=>ta σ H λvs H1=>∃a b xs ys,vs=[.ref a,.ref b]/\c8 K H1 a xs/\cG K H1 b ys/\R (Uc K a b) H1
theorem Nd{X:Cx}{e e2:Expr}{ta:TA}{p pos uZ:Pos}{elts:List Expr}{kk:Nat}(hg:Gl X "zip")(hm:X.mg "zip"=none)(ha:PA X [e,e2] ta)(hs:starEach [e,e2] X.env=(false,eval e X.env)::starEach [e2] X.env:=by rfl)
  (vC:(backTo pos (starEach [e2] X.env)).any (·.1)=false:=by rfl):PI X (.Tuple elts kk uZ) (.Call (.Name "zip" p) [e,e2] [] pos) (S2 X.K ta):=by
 intro pins s σ H R J h;refine Call_ (pT J hg hm Bl (eN (eO (ha pos pins s σ H _ J h) λus s1⟨vs,H1,J1,r1,a,b,xs,ys,ex,IL,IK,q⟩=>?_) hs vC));subst ex;cases r1 with
 |cons r rr=>
  cases rr with
  |cons r' rr=>
   cases rr;cases r;cases r';obtain⟨bU,rv,p1,_⟩:=J1.tuple IL;obtain⟨mE,MZ,p2,_⟩:=J1.list IK;have p1:s1.heap.IsTuple a bU.toArray:=p1;have la:a<s1.heap.objs.size:=by obtain⟨_,e,_⟩:=p1;exact aM e
   refine PbZ.Jj p1 p2.isList λg hz hI hO h1 h2 hsz hk=>C0 hz ?_
   refine⟨s1.heap.objs.size+4,[s1.heap.objs.size+4,s1.heap.objs.size+2,s1.heap.objs.size+3,s1.heap.objs.size,s1.heap.objs.size+1],_,_,H1,rfl,J1.kept (t':=s1.toks) hk,HH (PySem.W.ktu_apart s1.heap.objs.size a b la p2.lt),⟨hz,hI,⟨_,_,hO⟩,h1,h2⟩,λc Lg=>?_,q⟩;have m:c=s1.heap.objs.size+4\/c=s1.heap.objs.size+2\/c=s1.heap.objs.size+3\/c=s1.heap.objs.size\/c=s1.heap.objs.size+1:=by simpa using Lg
   have hle:s1.heap.objs.size<=c:=by rcases m with rfl|rfl|rfl|rfl|rfl<;>omega
   exact J1.Gi hle (J1.dy.fresh hle)
end Pr
namespace PbP
open PySem PySem.Spec PyProof.Rows
abbrev PK:=Int×List Int
section
variable{prog:Program}{w:World}
def vT(prog:Program)(w:World)(h:Heap)(k:PK)(a:Addr):Prop:=∃o t b m,h.get? a=some o/\o.cls=.type "tuple"/\o.data=.seq #[.int k.1 t,.ref b] m/\IsTupleKey (intKind prog w) h k.2 b
theorem vT.typeIs{s:Shared}{k:PK}{a:Addr}(x:vT prog w s.heap k a):s.TypeIs (.ref a) "tuple":=let⟨o,_,_,_,ho,hc,_⟩:=x;⟨o,ho,hc⟩
theorem vT.inj{h:Heap}{a:Addr}{x y:PK}(hx:vT prog w h x a)(hy:vT prog w h y a):x=y:=by
 obtain⟨o,t,b,m,ho,_,hd,hb⟩:=hx;obtain⟨o',t',b',m',qM,_,Cz,xH⟩:=hy;rw[ho]at qM;cases qM;rw[hd]at Cz;injection Cz with e _
 have e2:([Value.int x.1 t,.ref b]:List Value)=[.int y.1 t',.ref b']:=by simpa using gW Array.toList e
 injection e2 with e3 e4
 injection e3 with e3 _
 injection e4 with e4 _
 injection e4 with e4
 subst e4;exact Prod.ext e3 (hb.inj xH)
def BP(k:PK):Int:=reduceHash (Builtin.Tuple.tupleHashOf [hashInt k.1,reduceHash (Builtin.Tuple.tupleHashOf (k.2.map hashInt))])
variable{A:Around}{E:fw}{s:Shared}
theorem NM{k:PK}{a:Addr}{Q:Int->Shared->Prop}(hu:A.units+8<cLine)(hk:vT prog w s.heap k a)(h:Q (BP k) {s with toks:=s.toks+(k.2.length+3)}):wpAny (model prog w) A (pyHash (.ref a)) Q E s:=by
 have hT:=hk.typeIs;obtain⟨o,t,b,m,ho,_,hd,hb⟩:=hk;unfold pyHash
 first|unfold pyHashByItsType|skip
 first|refine aa (wpAny_cRoomFor_or (.inr (by omega)) ?_)|skip
 refine aa (iD hT F.slot_tuple_hash.lookup ?_);show wpAny _ _ (if(some (Value.builtin "tuple.__hash__")==some Value.none)=true then _ else _) Q E s;rw[aw (by rw[beq_builtin_none];exact aK)];refine aa (iD hT F.slot_tuple_hash.lookup ?_);show wpAny _ _ (callSpecialIfBoundUnlessNone? (.ref a) "__hash__" _>>=_) Q E s;refine aa (wpAny_callSpecialIfBoundUnlessNone?_slot hT F.slot_tuple_hash (dC F.slot_tuple_hash hT F.entry_tuple_hash ?_ (F.args_tuple_hash_1 _)));show wpAny _ _ (Builtin.Tuple.tupleItemsOf (.ref a)>>=_) _ _ s;refine aa (N8 ho hd (aa ?_));rw[<-lP];show wpAny _ _ (forIn [Value.int k.1 t,.ref b] _ _) _ _ s;simp only[ly,jY];refine aa (aa ((intKind prog w).pyHash (k:=k.1) (by simp[PySem.intKind,Value.isInt]) ?_))
 first|refine aj ?_|refine aa (aj (aj ?_))
 refine aa (aa (wpAny_pyHash_tuple (knd:=intKind prog w) (by show A.units+1<cLine;omega) hb ?_))
 first|refine aj ?_|refine aa (aj (aj ?_))
 refine aj ?_;show wpAny _ _ (retInt (Builtin.Tuple.tupleHashOf _)) _ _ _;refine wpAny_ret_mkInt ?_;have es:({s with toks:=s.toks+(k.2.length+3)}:Shared)={s with toks:=s.toks+1+(k.2.length+1)+1}:=by
  congr 1;omega
 rw[es]at h;generalize hx:Builtin.Tuple.tupleHashOf ((#[].push ((intKind prog w).hash k.1)).push (tupleKeyHash (intKind prog w) k.2)).toList=x
 have e:BP k=reduceHash x:=by rw[<-hx];rfl
 rw[e]at h;unfold reduceHash at h;show wpAny _ _ (if(decide (-(2:Int)^63<=x)&&decide (x<2^63))=true then _ else _) Q E _
 by_cases hr:(decide (-(2:Int)^63<=x)&&decide (x<2^63))=true
 ·rw[az hr]at h⊢;exact aj h
 ·rw[aw hr]at h⊢;exact aa (nq (aj h))
theorem Gm{x y:PK}{a b:Addr}{P:Fin->Shared->Prop}(hu:A.units<cLine)(hx:vT prog w s.heap x a)(hy:vT prog w s.heap y b)(h:P (.done (.ret (.bool (decide (x=y))))) s):
  wpAny (model prog w) A (Builtin.«tuple.__eq__» ⟨[.ref a,.ref b],[]⟩) P E s:=by
 have hT:=hy.typeIs;obtain⟨oa,ta,ba,ma,ha,_,NL,ka⟩:=hx;obtain⟨ob,tb,bb,mb,hb,_,IT,kb⟩:=hy;show wpAny _ _ (isInstance (.ref b) (.type "tuple")>>=_) _ _ s;refine aa (jd hT GF ?_);simp only[cN,aX,cE];refine aa (N8 ha NL (aa (N8 hb IT (aa ?_))));show wpAny _ _ (forIn [(Value.int x.1 ta,Value.int y.1 tb),(Value.ref ba,Value.ref bb)] _ _) _ _ s;simp only[ly,jY];have i1:(intKind prog w).is x.1 (.int x.1 ta)=true:=by simp[PySem.intKind,Value.isInt]
 have i2:(intKind prog w).is y.1 (.int y.1 tb)=true:=by simp[PySem.intKind,Value.isInt]
 refine aa (aa ((intKind prog w).eqBool (a:=x.1) (b:=y.1) i1 i2 ?_))
 by_cases h1:x.1=y.1
 ·rw[aJ h1]
  simp only[cN,aX,cE];refine aj (aa (aa (xj (knd:=intKind prog w) hu ka kb ?_)))
  by_cases h2:x.2=y.2
  ·rw[aJ h2]
   simp only[cN,aX,cE];refine aj (aj ?_);rw[aJ (Prod.ext h1 h2)]at h;exact aj h
  ·rw[aD h2]
   simp only[mJ,dD];rw[aD (λe=>h2 (by rw[e]))]at h;exact aa (aj (aj (aj (aj h))))
 ·rw[aD h1]
  simp only[mJ,dD];rw[aD (λe=>h1 (by rw[e]))]at h;exact aa (aj (aj (aj (aj h))))
theorem TU{x y:PK}{a b:Addr}{Q:Bool->Shared->Prop}(hu:A.units+8<cLine)(hx:vT prog w s.heap x a)(hy:vT prog w s.heap y b)(h:Q (decide (x=y)) s):wpAny (model prog w) A (eqBool (.ref a) (.ref b)) Q E s:=by
 unfold eqBool
 try with_reducible refine dX ?_
 show wpAny _ _ (if(Value.ref a==Value.ref b)=true then _ else _) Q E s
 by_cases q:(Value.ref a==Value.ref b)=true
 ·rw[az q]
  have e:a=b:=by have:=eq_of_beq q;injection this
  subst e;have e2:=hx.inj hy;subst e2;exact aa (nq (aj (by simpa using h)))
 ·rw[aw q]
  exact aa (wpAny_richCompare_same_room (op:=.Eq) hx.typeIs hy.typeIs F.slot_tuple_eq (dC F.slot_tuple_eq hx.typeIs F.entry_tuple_eq (Gm (by show A.units+1<cLine;omega) hx hy ⟨_,rfl,(λe=>nomatch e),dG h⟩) (F.args_tuple_eq_2 _ _)) (by omega))
theorem Ii{ks:List Int}{a:Addr}{n:Nat}{Q:Bool->Shared->Prop}(hk:IsTupleKey (intKind prog w) s.heap ks a)(h:Q true s):wpAny (model prog w) A (eqIsQuiet (n+1) (.ref a)) Q E s:=by
 have hT:=hk.typeIs;obtain⟨o,items,m,ho,_,hd,hi⟩:=hk;unfold eqIsQuiet;refine aa (iD hT F.slot_tuple_eq.lookup ?_);show wpAny _ _ (isInstance (.ref a) (.type "tuple")>>=_) _ _ s;refine aa (jd hT GF ?_);simp only[cN,aX,cE];refine aa (eM ho hd (aa ?_));show wpAny _ _ (forIn items _ _) _ _ s;rw[<-lP];refine je _ (λrest r s'=>r.1=none/\s'=s/\∀v∈rest,carriedByValue v=true) _ ?_ ?_ _ _ ⟨rfl,rfl,hi.byValue⟩
 ·rintro v rest r s' ⟨hr,rfl,al⟩
  rw[eqIsQuiet_byValue _ (al v ax)];refine aa (aj ?_);simp only[cN,aX,cE];exact aj ⟨rfl,rfl,λu hu=>al u (ao _ hu)⟩
 ·rintro⟨r1,r2⟩ s' ⟨hr,rfl,_⟩
  simp only at hr;subst hr;exact aj h
theorem Ki{k:PK}{a:Addr}{Q:Bool->Shared->Prop}(hk:vT prog w s.heap k a)(h:Q true s):wpAny (model prog w) A (eqIsQuiet 8 (.ref a)) Q E s:=by
 have hT:=hk.typeIs;obtain⟨o,t,b,m,ho,_,hd,kb⟩:=hk;unfold eqIsQuiet;refine aa (iD hT F.slot_tuple_eq.lookup ?_);show wpAny _ _ (isInstance (.ref a) (.type "tuple")>>=_) _ _ s;refine aa (jd hT GF ?_);simp only[cN,aX,cE];refine aa (eM ho hd (aa ?_));show wpAny _ _ (forIn #[Value.int k.1 t,.ref b] _ _) _ _ s;rw[<-lP];show wpAny _ _ (forIn [Value.int k.1 t,.ref b] _ _) _ _ s;simp only[ly,jY];rw[eqIsQuiet_byValue _ (v:=Value.int k.1 t) rfl];refine aa (aa (aj ?_));simp only[cN,aX,cE];refine aj (aa (aa (Ii kb ?_)));simp only[cN,aX,cE];exact aj (aj (aj h))
end
def BO(prog:Program)(w:World):HeapKind prog w PK where
 is:=vT prog w
 hash:=BP
 draws:=λk=>k.2.length+3
 room:=λA=>A.units+8<cLine
 inj:=λhx hy=>hx.inj hy
 keeps:=λ⟨o',t,b,m,qM,hc,Cz,kb⟩ho hd hs=>⟨o',t,b,m,(hs.2 _ (by rintro rfl;rw[ho]at qM;cases qM;rw[hd]at Cz;cases Cz)).trans qM,hc,Cz,kb.keeps ho hd hs⟩
 pyHash:=λhu hk h=>NM hu hk h
 eqBool:=λhu hx hy h=>TU hu hx hy h
 quiet:=λhk h=>Ki hk h
end PbP
namespace Pr
open PySem PySem.Spec PyProof.Rows L2 PbP
def zD(K:c9)(H:Hp)(b:Addr)(k:PK):Prop:=∃t,H b=some (.tup [.int k.1,.ref t])/\c8 K H t (k.2.map V.int)
abbrev NE:=PK×Addr×Bool
def nv(x:NE):PK×Addr×Value:=(x.1,x.2.1,.bool x.2.2)
def zO(K:c9)(H:Hp)(a:Addr)(xs:List NE):Prop:=∃o es ep,H a=some (oO a o)/\o.ExactDict/\o.data=.dict es ep/\es.toList=xs.map (λx=>(⟨BP x.1,.ref x.2.1,.bool x.2.2⟩:DictEntry))/\(xs.map (·.1)).Nodup/\(a==sysModules)=false/\xs.length<=1000/\
 ∀x∈xs,zD K H x.2.1 x.1
def KP(xs:List NE)(k:PK):Option Bool:=(xs.find? λx=>decide (x.1=k)).map (·.2.2)
theorem uK:∀(xs:List NE)(k:PK),(atKey (xs.map nv) k).map (·.2)=(KP xs k).map Value.bool
 | [],_=>rfl
 |x::xs,k=>by
  by_cases h:x.1=k
  ·simp[atKey,KP,nv,dM,h]
  ·have:=uK xs k
   simpa[atKey,KP,nv,dM,h]using this
theorem zD.mono{K:c9}{H H':Hp}(kl:Kl H H'){b:Addr}{k:PK}(h:zD K H b k):zD K H' b k:=let⟨t,h1,h2⟩:=h;⟨t,kl.tup h1,kl.AQ h2⟩
theorem zO.same{K:c9}{H H':Hp}(e:aS H H'){a:Addr}{xs:List NE}(h:zO K H a xs):zO K H' a xs:=by
 obtain⟨o,es,ep,h1,h2,h3,h4,h5,h6,h7,h8⟩:=h;exact⟨o,es,ep,e _ _ h1,h2,h3,h4,h5,h6,h7,λx hx=>(h8 x hx).mono e.kl⟩
section
variable{X:Cx}{pins:List (Addr×Obj)}{σ:L2.St}{H:Hp}{s:Shared}
theorem GX(I:L2.Inv X pins σ H s){b:Addr}{k:PK}(h:zD X.K H b k):vT X.prog X.w s.heap k b:=by
 obtain⟨t,h1,h2⟩:=h;obtain⟨z,bU,r,⟨o,ho,hc,m,hd⟩⟩:=I.dy b _ h1;cases r with
 |cons r1 r2=>
  cases r2 with
  |cons r3 r4=>
   cases r4;obtain⟨tk,e1⟩:=r1;subst e1;cases r3;exact⟨o,tk,t,m,ho,hc,hd,(g0 I h2).key⟩
theorem FW(I:L2.Inv X pins σ H s){a:Addr}{xs:List NE}(h:zO X.K H a xs):s.heap.DictOfH (BO X.prog X.w) a (xs.map nv):=by
 obtain⟨o,es,ep,h1,h2,h3,h4,h5,h6,h7,h8⟩:=h;refine⟨o,es,ep,vA I h1,h2,h3,?_,λy hy=>?_,?_⟩
 ·rw[h4,bC];rfl
 ·obtain⟨x,hx,rfl⟩:=aV.mp hy
  exact GX I (h8 x hx)
 ·rw[bC];exact h5
end
section
variable{X:Cx}{o i value:Expr}{td ty tv:TE}{pos pos':Pos}
def My(K:c9)(ty td:TE):TE:=λσ H Q=>ty σ H λy H1=>td σ H1 λx H2=>∃a b k xs,x=.ref a/\y=.ref b/\zO K H2 a xs/\zD K H2 b k/\Q (.bl (!(KP xs k).isSome)) H2
theorem Io(hu:X.A.units+64<cLine)(hi:PE X i ty)(ho:PE X o td):PC X .NotIn i o (My X.K ty td):=by
 intro pins s σ H Q I h;refine eO (hi pins s σ H _ I h) λiv s1⟨y,H1,I1,ry,q1⟩=>eO (ho pins s1 σ H1 _ I1 q1) λu s2⟨x,H2,I2,rx,a,b,k,xs,ex,ey,hn,hk,q⟩=>?_
 subst ex ey;obtain rfl:u=Value.ref a:=rx;obtain rfl:iv=Value.ref b:=ry;have hd:(a==sysModules)=false:=by obtain⟨_,_,_,_,_,_,_,_,z,_⟩:=hn;exact z
 refine wpAny_notIn_heap (knd:=BO X.prog X.w) (by show X.A.units+1+8<cLine;omega) (GX I2 hk) hd (FW I2 hn) ⟨.bl _,H2,I2.tok _,rfl,?_⟩;have e:=gW Option.isSome (uK xs k);rw[mI,mI]at e;rw[e];exact q
def R7(K:c9)(td ty:TE):TE:=λσ H Q=>td σ H λx H1=>ty σ H1 λy H2=>∃a b k xs c,x=.ref a/\y=.ref b/\zO K H2 a xs/\zD K H2 b k/\KP xs k=some c/\Q (.bl c) H2
theorem Nh(hu:X.A.units+64<cLine)(ho:PE X o td)(hi:PE X i ty)(hs:Rp i):PE X (.Subscript o i pos) (R7 X.K td ty):=by
 intro pins s σ H Q I h;refine GP PySem.F.slot_dict_getitem.lookup hs (eO (ho pins s σ H _ I h) λu s1⟨x,H1,I1,rx,q1⟩=>eO (hi pins s1 σ H1 _ I1 q1) λiv s2⟨y,H2,I2,ry,a,b,k,xs,c,ex,ey,hn,hk,e,q⟩=>?_);subst ex ey;obtain rfl:u=Value.ref a:=rx;obtain rfl:iv=Value.ref b:=ry;have dd:=FW I2 hn;have e2:=uK xs k;rw[e]at e2;obtain⟨p,hp,OG⟩:=bO.mp e2;refine⟨dd.typeIs,wpAny_getItem_heap (knd:=BO X.prog X.w) (by show X.A.units+1+8<cLine;omega) (GX I2 hk) dd hp ⟨.bl c,H2,I2.tok _,?_,q⟩⟩;rw[OG];rfl
def Ss(K:c9)(td ty tv:TE):TS:=λD σ H=>tv σ H λv H1=>td σ H1 λx H2=>ty σ H2 λy H3=>∃a b k xs c,v=.bl c/\x=.ref a/\y=.ref b/\zO K H3 a xs/\zD K H3 b k/\xs.length<1000/\KP xs k=none/\
 ∀o',zO K (upd H3 a (oO a o')) a (xs++ [(k,b,c)])->D.nx σ (upd H3 a (oO a o'))
theorem Na(hu:X.A.units+64<cLine)(ho:PE X o td)(hi:PE X i ty)(hv:PE X value tv)(hs:swapsWith value (some (.Subscript o i pos')) pos.line X.env=pure false):PS X (.Assign [.Subscript o i pos'] value pos) (Ss X.K td ty tv):=by
 intro pins s σ H D I h;refine wpAny_Assign_Subscript (eO (hv pins s σ H _ I h) λr s1⟨v,H1,I1,rv,q1⟩=>eO (ho pins s1 σ H1 _ I1 q1) λu s2⟨x,H2,I2,rx,q2⟩=>eO (hi pins s2 σ H2 _ I2 q2) λiv s3⟨y,H3,I3,ry,a,b,k,xs,c,ev,ex,ey,hn,hk,hl,e,q⟩=>?_) hs;subst ev ex ey;obtain rfl:u=Value.ref a:=rx;obtain rfl:iv=Value.ref b:=ry;obtain rfl:r=Value.bool c:=rv;have e2:=uK xs k;rw[e]at e2;have e3:atKey (xs.map nv) k=none:=Option.map_eq_none_iff.mp e2;refine wpAny_setItem_heap (knd:=BO X.prog X.w) (by show X.A.units+1+8<cLine;omega) (GX I3 hk) (FW I3 hn) (λh' Dh La=>?_) (by rw[ab,bo];omega);rw[storedH_new e3]at Dh;obtain⟨o',es,ep,g1,g2,g3,g4,g5,g6⟩:=Dh;obtain⟨o0,es0,ep0,k1,k2,k3,k4,k5,k6,k7,k8⟩:=hn;refine⟨σ,upd H3 a (oO a o'),qy I3 (by rw[k1];exact True.intro) La ⟨o',g1⟩ (sG g1),q o' ?_⟩;have ne:∀{z:Addr}{ys:List V},H3 z=some (.tup ys)->z≠a:=λhz=>cF hz k1 (by intro q;cases q)
 have kt:∀{z:Addr}{ys:List V},c8 X.K H3 z ys->c8 X.K (upd H3 a (oO a o')) z ys:=λhz=>by
  rcases hz with(hz|⟨u,hz⟩)|hz
  ·exact .inl (.inl (by rw[aG (ne hz)];exact hz))
  ·exact .inl (.inr ⟨u,by rw[aG (cF hz k1 (by intro q;cases q))];exact hz⟩)
  ·exact .inr hz
 have pk:∀{z:Addr}{k:PK},zD X.K H3 z k->zD X.K (upd H3 a (oO a o')) z k:=λ⟨t,h1,h2⟩=>⟨t,by rw[aG (ne h1)];exact h1,kt h2⟩
 refine⟨o',es,ep,ai,g2,g3,?_,?_,k6,by rw[aA];exact hl,λy hy=>?_⟩
 ·rw[g4,aZ,aZ,bC];rfl
 ·rw[aZ,bC]at g6
  rw[aZ];exact g6
 ·rcases br.mp hy with q|q
  ·exact pk (k8 y q)
  ·rw[aP.mp q];exact pk hk
def Po(K:c9):TE:=λ_ H Q=>∀p o,H p=none->zO K (upd H p (oO p o)) p []->Q (.ref p) (upd H p (oO p o))
theorem Ku:PE X (.Dict [] [] pos) (Po X.K):=λpins s σ H Q I h=>
 wpAny_Dict_empty ⟨.ref s.heap.objs.size,_,I.laid (a:=s.heap.objs.size) (o:=oO s.heap.objs.size {cls:=.type "dict",data:=.dict #[]}) (t':=s.toks) (λ_ _ q=>ak _ q) (ay _) (sG (aO _ rfl)),rfl,
  h _ _ (I.dy.fresh (ay _)) ⟨_,#[],0,ai,⟨rfl,rfl,rfl⟩,rfl,rfl,C2,d4.mpr (fZ (a0 I.big)),bp _,λx hx=>nomatch hx⟩⟩
end
end Pr
namespace PbKs
open PySem PySem.Spec PyProof.Rows PySem.W
section
variable{n:Nat}{r:Nat->Int}{cmp:Nat->Nat->(Bool->Shared->Prop)->Shared->Prop}{s:Shared}
abbrev R(r:Nat->Int)(p:Array Nat)(i:Nat):Int:=r (p.getD i 0)
structure Pl(n:Nat)(p:Array Nat):Prop where
 sz:p.size=n
 perm:p.toList.Perm (List.range n)
theorem Pl.lt{p:Array Nat}(P:Pl n p){i:Nat}(hi:i<n):p.getD i 0<n:=by
 have h:i<p.size:=by rw[P.sz];exact hi
 have e:p.getD i 0=p[i]:=by simp[Array.getD,h]
 rw[e];have m:p[i]∈p.toList:=by rw[<-Array.getElem_toList];exact bL _
 exact dI.mp (P.perm.mem_iff.mp m)
theorem Pl.inj{p:Array Nat}(P:Pl n p){i j:Nat}(hi:i<n)(hj:j<n)(e:p.getD i 0=p.getD j 0):i=j:=by
 have h1:i<p.size:=by rw[P.sz];exact hi
 have h2:j<p.size:=by rw[P.sz];exact hj
 have e1:p.getD i 0=p[i]:=by simp[Array.getD,h1]
 have e2:p.getD j 0=p[j]:=by simp[Array.getD,h2]
 rw[e1,e2]at e;have nd:p.toList.Nodup:=P.perm.nodup_iff.mpr kq;have IX:i<p.toList.length:=by simpa using h1
 have JJ:j<p.toList.length:=by simpa using h2
 exact(Mb (h₀:=IX) (h₁:=JJ) nd).mp (by simpa using e)
theorem Pl.G5{p q:Array Nat}(P:Pl n p)(h:q.Perm p):Pl n q:=⟨by rw[h.size_eq];exact P.sz,(Array.perm_iff_toList_perm.mp h).trans P.perm⟩
theorem Pl.start(n:Nat):Pl n (List.toArray (List.range n)):=⟨by simp,by simp⟩
def Jv(r:Nat->Int)(p:Array Nat)(m:Nat):Prop:=∀i j,i<j->j<m->R r p i<R r p j
def RW(r:Nat->Int)(p:Array Nat)(m:Nat):Prop:=∀i j,i<j->j<m->R r p j<R r p i
structure Cm(n:Nat)(r:Nat->Int)(cmp:Nat->Nat->(Bool->Shared->Prop)->Shared->Prop)(s:Shared):Prop where
 ask:∀i j C,i<n->j<n->C (decide (r i<r j)) s->cmp i j C s
 inj:∀i j,i<n->j<n->r i=r j->i=j
theorem Cm.Vc(c:Cm n r cmp s){p:Array Nat}(P:Pl n p){i j:Nat}(hi:i<n)(hj:j<n)(h:¬R r p i<R r p j)(ne:i≠j):R r p j<R r p i:=by
 have:R r p i≠R r p j:=λe=>ne (P.inj hi hj (c.inj _ _ (P.lt hi) (P.lt hj) e))
 omega
theorem L1{p:Array Nat}{m:Nat}(h1:1<=m)(h:Jv r p m)(hl:R r p (m-1)<R r p m):Jv r p (m+1):=λi j Es hj=>by
 rcases i3 j m with g|g
 ·exact h i j Es g
 ·have e:j=m:=by omega
  subst e;rcases i3 i (j-1)with g2|g2
  ·exact JE (h i (j-1) g2 (by omega)) hl
  ·have e:i=j-1:=by omega
   subst e;exact hl
theorem Lz{p:Array Nat}{m:Nat}(h1:1<=m)(h:RW r p m)(hl:R r p m<R r p (m-1)):RW r p (m+1):=λi j Es hj=>by
 rcases i3 j m with g|g
 ·exact h i j Es g
 ·have e:j=m:=by omega
  subst e;rcases i3 i (j-1)with g2|g2
  ·exact JE hl (h i (j-1) g2 (by omega))
  ·have e:i=j-1:=by omega
   subst e;exact hl
theorem Gy(c:Cm n r cmp s){p:Array Nat}(P:Pl n p){G:Nat->Shared->Prop}:∀(f a:Nat),1<=a->a+f=n->Jv r p a->(∀m,a<=m->m<=n->Jv r p m->(m<n->R r p m<R r p (m-1))->G m s)->(kas_asc p f a).kasWp cmp G s
 |0,a,h1,h2,h3,k=>k a (ay _) (by omega) h3 λh=>by omega
 |f+1,a,h1,h2,h3,k=>by
  refine c.ask _ _ _ (P.lt (by omega)) (P.lt (by omega)) ?_;show KasT.kasWp cmp (if decide (R r p a<R r p (a-1))=true then KasT.ret a else kas_asc p f (a+1)) G s
  by_cases h:R r p a<R r p (a-1)
  ·rw[az (aJ h)]
   exact k a (ay _) (by omega) h3 λ_=>h
  ·rw[aw (by simpa using h)]
   exact Gy c P f (a+1) (by omega) (by omega) (L1 h1 h3 (c.Vc P (by omega) (by omega) h (by omega))) λm a1 a2 a3 a4=>k m (by omega) a2 a3 a4
theorem LA(c:Cm n r cmp s){p:Array Nat}(P:Pl n p){G:Array Nat×Nat×Nat->Shared->Prop}:∀(f a:Nat),1<=a->a+f=n->RW r p a->(∀m,a<=m->m<=n->RW r p m->G (p,m,0) s)->(kas_desc f p a 0).kasWp cmp G s
 |0,a,h1,h2,h3,k=>k a (ay _) (by omega) h3
 |f+1,a,h1,h2,h3,k=>by
  refine c.ask _ _ _ (P.lt (by omega)) (P.lt (by omega)) ?_;show KasT.kasWp cmp (if decide (R r p a<R r p (a-1))=true then(if 0>0 then _ else kas_desc f p (a+1) 0)else _) G s
  by_cases h:R r p a<R r p (a-1)
  ·rw[az (aJ h),aw (by omega)]
   exact LA c P f (a+1) (by omega) (by omega) (Lz h1 h3 h) λm a1 a2 a3=>k m (by omega) a2 a3
  ·rw[aw (by simpa using h)]
   refine c.ask _ _ _ (P.lt (by omega)) (P.lt (by omega)) ?_;show KasT.kasWp cmp (if decide (R r p (a-1)<R r p a)=true then KasT.ret (p,a,0)else _) G s;rw[az (aJ (c.Vc P (by omega) (by omega) h (by omega)))];exact k a (ay _) (by omega) h3
theorem GS{p:Array Nat}{m:Nat}(hm:m<=p.size)(k:Nat):(kas_rev p 0 m).getD k 0=if k<m then p.getD (m-1-k) 0 else p.getD k 0:=by
 have q:=getElem?_mirror_all (xs:=p) (i:=0) (j:=m) hm k;unfold kas_rev;have g:∀(a:Array Nat)(i:Nat),a.getD i 0=(a[i]?).getD 0:=λa i=>by simp[jH]
 rw[g,q]
 by_cases h:k<m
 ·rw[az ⟨bp _,h⟩,az h,g,zI]
 ·rw[aw (by omega),aw h,g]
theorem M0{p:Array Nat}{m:Nat}(hm:m<=p.size)(h:RW r p m):Jv r (kas_rev p 0 m) m:=λi j Es hj=>by
 show r _<r _;rw[GS hm,GS hm,az (by omega),az hj];exact h _ _ (by omega) (by omega)
theorem Mv(c:Cm n r cmp s){p:Array Nat}(P:Pl n p){m:Nat}(h1:1<=m)(hm:m<=n)(h:RW r p m){G:Nat×Array Nat->Shared->Prop}(k:∀m q,1<=m->m<=n->Pl n q->Jv r q m->G (m,q) s):(kas_tail3 m n p).kasWp cmp G s:=by
 have P2:Pl n (kas_rev p 0 m):=P.G5 (mirror_perm _ _ _ _);unfold kas_tail3;rw[vW];exact Gy c P2 (n-m) m h1 (by omega) (M0 (by rw[P.sz];exact hm) h) λm' a1 a2 a3 _=>k m' _ (by omega) a2 P2 a3
theorem LS(c:Cm n r cmp s){p:Array Nat}(P:Pl n p)(h2:2<=n){G:Nat×Array Nat->Shared->Prop}(k:∀m q,1<=m->m<=n->Pl n q->Jv r q m->G (m,q) s):(kas_count n p).kasWp cmp G s:=by
 unfold kas_count;rw[vW];refine Gy c P (n-1) 1 (ay _) (by omega) (λi j h1 h2=>by omega) λm a1 a2 a3 a4=>?_
 by_cases hm:m=n
 ·rw[az (by simpa using hm)]
  exact k m p a1 a2 P a3
 rw[aw (by simpa using hm)]
 by_cases h1:m>1
 ·rw[az h1]
  refine c.ask _ _ _ (P.lt (by omega)) (P.lt (by omega)) ?_;show KasT.kasWp cmp (if decide (R r p 0<R r p (m-1))=true then KasT.ret (m,p)else _) G s;rw[az (aJ (a3 0 (m-1) (by omega) (by omega)))];exact k m p a1 a2 P a3
 ·rw[aw h1]
  have e:m=1:=by omega
  subst e;unfold kas_descPart;rw[vW];have d1:=a4 (by omega);refine LA c P (n-(1+1)) (1+1) (by omega) (by omega) (λi j Es hj=>?_) λm b1 b2 b3=>?_
  ·have ei:i=0:=by omega
   have ej:j=1:=(by omega);subst ei ej;exact d1
  ·show KasT.kasWp cmp (if(0:Nat)>0 then _ else kas_tail3 m n p) G s
   rw[aw (by omega)];exact Mv c P (by omega) b2 b3 k
theorem yo(c:Cm n r cmp s){p:Array Nat}(P:Pl n p){k:Nat}(hk:k<n)(ha:Jv r p k){G:Nat->Shared->Prop}:∀(f l u:Nat),l<=u->u<=k->u-l<=f->(∀i,i<l->R r p i<R r p k)->(∀i,u<=i->i<k->R r p k<R r p i)->
  (∀l,l<=k->(∀i,i<l->R r p i<R r p k)->(∀i,l<=i->i<k->R r p k<R r p i)->G l s)->(kas_place p k f l u).kasWp cmp G s
 |0,l,u,h1,h2,h3,h4,h5,g=>g l (by omega) h4 λi a b=>h5 i (by omega) b
 |f+1,l,u,h1,h2,h3,h4,h5,g=>by
  show KasT.kasWp cmp (if l>=u then KasT.ret l else _) G s
  by_cases hl:l>=u
  ·rw[az hl]
   exact g l (by omega) h4 λi a b=>h5 i (by omega) b
  ·rw[aw hl]
   refine c.ask _ _ _ (P.lt hk) (P.lt (by omega)) ?_;show KasT.kasWp cmp (if decide (R r p k<R r p ((l+u)/2))=true then kas_place p k f l ((l+u)/2)else kas_place p k f ((l+u)/2+1) u) G s
   by_cases h:R r p k<R r p ((l+u)/2)
   ·rw[az (aJ h)]
    refine yo c P hk ha f l ((l+u)/2) (by omega) (by omega) (by omega) h4 (λi a b=>?_) g;rcases i3 ((l+u)/2) i with z|z
    ·exact JE h (ha _ _ z b)
    ·have e:i=(l+u)/2:=by omega
     subst e;exact h
   ·rw[aw (by simpa using h)]
    have h':=c.Vc P hk (by omega) h (by omega);refine yo c P hk ha f ((l+u)/2+1) u (by omega) h2 (by omega) (λi a=>?_) h5 g;rcases i3 i ((l+u)/2)with z|z
    ·exact JE (ha _ _ z (by omega)) h'
    ·have e:i=(l+u)/2:=by omega
     subst e;exact h'
theorem Hz{p:Array Nat}{k l:Nat}(hk:k<p.size)(hl:l<=k)(i:Nat):(bubble p k (k-l)).getD i 0=if i=l then p.getD k 0 else if l<i/\i<=k then p.getD (i-1) 0 else p.getD i 0:=by
 have q:=getElem?_bubble (xs:=p) (src:=k) hk (k-l) (by omega) i;have g:∀(a:Array Nat)(i:Nat),a.getD i 0=(a[i]?).getD 0:=λa i=>by simp[jH]
 rw[g,q,show k-(k-l)=l by omega]
 by_cases h1:i=l
 ·rw[az h1,az h1,g]
 ·rw[aw h1,aw h1]
  by_cases h2:l<i/\i<=k
  ·rw[az h2,az h2,g]
  ·rw[aw h2,aw h2,g]
theorem LW(c:Cm n r cmp s){G:Array Nat->Shared->Prop}(g:∀q,Pl n q->Jv r q n->G q s):∀(f:Nat)(p:Array Nat)(k:Nat),Pl n p->k+f=n->Jv r p k->(kas_bin f p k).kasWp cmp G s
 |0,p,k,P,h,ha=>g p P (by rw[<-h];exact ha)
 |f+1,p,k,P,h,ha=>by
  show KasT.kasWp cmp ((kas_place p k k 0 k).bind λl=>kas_bin f (bubble p k (k-l)) (k+1)) G s
  rw[vW];refine yo c P (by omega) ha k 0 k (bp _) (ay _) (by omega) (λi a=>by omega) (λi a b=>by omega) λl hl h1 h2=>?_
  refine LW c g f _ (k+1) (P.G5 (bubble_perm _ _ _)) (by omega) λi j Es hj=>?_
  have hk:k<p.size:=by rw[P.sz];omega
  show r _<r _;rw[Hz hk hl,Hz hk hl]
  by_cases c1:i=l
  ·rw[az c1,aw (by omega),az ⟨by omega,by omega⟩]
   exact h2 (j-1) (by omega) (by omega)
  ·rw[aw c1]
   by_cases c2:j=l
   ·rw[az c2,aw (by omega)]
    exact h1 i (by omega)
   ·rw[aw c2]
    by_cases c3:l<i/\i<=k
    ·rw[az c3,az ⟨by omega,by omega⟩]
     exact ha _ _ (by omega) (by omega)
    ·rw[aw c3]
     by_cases c4:l<j/\j<=k
     ·rw[az c4]
      rcases i3 i (j-1)with z|z
      ·exact ha _ _ z (by omega)
      ·omega
     ·rw[aw c4]
      exact ha _ _ Es (by omega)
theorem MR(c:Cm n r cmp s)(h2:2<=n){G:Array Nat->Shared->Prop}(g:∀q,Pl n q->Jv r q n->G q s):(kas_sort n).kasWp cmp G s:=by
 unfold kas_sort;rw[vW];refine LS c (Pl.start n) h2 λm q h1 hm P ha=>?_
 show KasT.kasWp cmp (if m<n then kas_bin (n-max m 1) q (max m 1)else KasT.ret q) G s
 by_cases h:m<n
 ·rw[az h]
  exact LW c g (n-max m 1) q (max m 1) P (by omega) (by rw[Nat.max_eq_left h1];exact ha)
 ·rw[aw h]
  have e:m=n:=by omega
  subst e;exact g q P ha
end
end PbKs
namespace Pr
open PySem PySem.Spec PyProof.Rows L2
open PySem.W (CodeHd tabObj kla_fn kla_obj)
theorem Nz{P:Program}{w:World}{K:c9}{mg:jB}{base:Heap}{k:Nat}{A:Around}{outer:List Env}{s:Shared}{H:Hp}{f c:Addr}{xc pm:Value}{params:Arguments}{body:Expr}{scope:Scope}{qual:Str}{N ps:List Str}{us:List Value}{vs:List V}{Q:VK}{E:XK}
  (ho:s.heap.get? f=some (kla_obj "<lambda>" qual params body scope [] pm c xc))(Ga:s.heap.CodeRec (.ref c) qual)(S:a9 N ps scope)(hr:gV (k+1) A)(e0:zE P w K mg base A outer s H)
  (hb:bindArgs (kla_fn "<lambda>" qual params body scope [] pm (.ref c) xc) ⟨us,[]⟩=pure (ps.zip us))(hl:vs.length=ps.length)(r:Vals vs us)
  (p7:∃t,PE (zh Bu P w K mg base N qual scope f (.ref c) A outer s H E) body t/\t (start N vs) H Q):codeAny (model P w) A (.call (.ref f) ⟨us,[]⟩) (CR Bu outer P w H s Q E) s:=by
 have lim:s.heap.NoLimit:=e0.mod.nolimit.keeps λb o e=>(e0.bs b o e).1
 have Lc:∀y∈ps.zip us,scope.names.lookup y.1=some .local\/(scope.names.lookup y.1=some .cell/\((cellsFrom (s.heap.objs.size+1) scope.names []).lookup y.1).isSome=true):=λ⟨n,v⟩hy=>by
  rcases S.par n (zS hy).1 with q|q
  ·exact .inl q
  ·exact .inr ⟨q,zH _ _ _ (.inl q)⟩
 refine PySem.W.kla_callFunE hr.depth ho rfl S.co S.gen rfl Ga ?_;rw[hb];refine aj (wpAny_newFunctionEnv_cells S.kind Lc λenv he s1 x=>?_);subst he;refine⟨lim.keeps x.toInCall.keep,PySem.W.kla_codeExpr ?_⟩;obtain⟨t,ht,hq⟩:=p7;have I:L2.Inv (zh Bu P w K mg base N qual scope f (.ref c) A outer s H E) [] (start N vs) H s1:=Ba S hr.hd e0 hl r x;exact eT (ht [] s1 (start N vs) H _ I hq) (λu s'⟨v,H',J,rv,q⟩=>⟨v,H',J.os,J.bare,J.base,J.dy,rv,q⟩) λe s' hs=>hs
end Pr
namespace Pr
open PySem PySem.Spec PyProof.Rows L2
open PySem.W (kas_sort kas_ask kat_run kat_snds kat_lt kat_one kat_kind KatTups KatLex kat_cons kat_yes kat_no kat_nil kat_go Looks kas_item)
abbrev KD:=List Int×Int
def klt(a b:KD):Bool:=if a.1=b.1 then decide (a.2<b.2)else HT.lexLt a.1 b.1
def uR(H:Hp)(k:KD)(t:Addr):Prop:=∃dt,H t=some (.tup [.ref dt,.int k.2])/\H dt=some (.tup (k.1.map V.int))
theorem uR.same{H H':Hp}(e:aS H H'){k:KD}{t:Addr}(h:uR H k t):uR H' k t:=let⟨dt,h1,h2⟩:=h;⟨dt,e _ _ h1,e _ _ h2⟩
def CY(H:Hp)(ts:List Addr)(ks:List KD):Prop:=ts.length=ks.length/\∀(i:Nat)(t:Addr)(k:KD),ts[i]?=some t->ks[i]?=some k->uR H k t
section
variable{X:Cx}{pins:List (Addr×Obj)}{σ:L2.St}{H:Hp}{s:Shared}
theorem Cs(I:L2.Inv X pins σ H s){k:KD}{t:Addr}(h:uR H k t):∃o m dt tk,s.heap.get? t=some o/\o.cls=.type "tuple"/\o.data=.seq #[.ref dt,.int k.2 tk] m/\TupIs s.heap dt k.1:=by
 obtain⟨dt,h1,h2⟩:=h;obtain⟨z,bU,r,⟨o,ho,hc,m,hd⟩⟩:=I.dy t _ h1;cases r with
 |cons r1 r2=>
  cases r2 with
  |cons r3 r4=>
   cases r4;cases r1;obtain⟨tk,e⟩:=r3;subst e;exact⟨o,m,dt,tk,ho,hc,hd,g0 I (c8.of h2)⟩
theorem L0(I:L2.Inv X pins σ H s){A:Around}(hu:A.units+8<cLine){ts:List Addr}{ks:List KD}(hk:CY H ts ks){i j:Nat}{ki kj:KD}(hi:ks[i]?=some ki)(hj:ks[j]?=some kj){C:Bool->Shared->Prop}(h:C (klt ki kj) s):
  kas_ask X.prog X.w A (tuples' false) (ts.map Value.ref) i j C s:=by
 have li:i<ts.length:=by rw[hk.1];exact(aN.mp hi).1
 have lj:j<ts.length:=by rw[hk.1];exact(aN.mp hj).1
 have ei:(ts.map Value.ref).getD i Value.none=.ref ts[i]:=by rw[aE,aW,ae li];rfl
 have ej:(ts.map Value.ref).getD j Value.none=.ref ts[j]:=by rw[aE,aW,ae lj];rfl
 obtain⟨o,m,dt,tk,ho,hc,hd,hT⟩:=Cs I (hk.2 i ts[i] ki (ae li) hi);obtain⟨o',m',AB,Oc,qM,QW,Cz,UQ⟩:=Cs I (hk.2 j ts[j] kj (ae lj) hj);unfold kas_ask;rw[ei,ej];refine kat_lt ho hd qM Cz ?_;show KatLex _ _ _ _ _ _ [(Value.ref dt,Value.ref AB),(Value.int ki.2 tk,Value.int kj.2 Oc)] 0 s;refine kat_cons (xj (knd:=intKind X.prog X.w) (by omega) hT.key UQ.key ?_);unfold klt at h
 by_cases e:ki.1=kj.1
 ·rw[az e]at h
  rw[aJ e];refine kat_yes (kat_cons ?_);have i1:(intKind X.prog X.w).is ki.2 (.int ki.2 tk)=true:=by simp[PySem.intKind,Value.isInt]
  have i2:(intKind X.prog X.w).is kj.2 (.int kj.2 Oc)=true:=by simp[PySem.intKind,Value.isInt]
  refine(intKind X.prog X.w).eqBool (a:=ki.2) (b:=kj.2) i1 i2 ?_
  by_cases e2:ki.2=kj.2
  ·rw[aJ e2]
   rw[aD (by omega)]at h;exact kat_yes (kat_nil h)
  ·rw[aD e2]
   refine kat_no (kat_one _ _ ?_);exact lt_int (Q:=PySem.W.BoolBack C) h
 ·rw[aw e]at h
  rw[aD e];refine kat_no (kat_one _ _ ?_);obtain⟨bU,ht,hit⟩:=hT;obtain⟨its',ND,QS⟩:=UQ;exact HT.yM ht ND (by simpa using hit) (by simpa using QS) (by omega) (show PySem.W.BoolBack C (.bool (HT.lexLt ki.1 kj.1)) s from h)
theorem ur(I:L2.Inv X pins σ H s):∀{ts:List Addr}{ks:List KD},CY H ts ks->∃ds:List Addr,KatTups s.heap (ts.map Value.ref) (ds.map Value.ref)/\ds.length=ts.length/\∀d∈ds,∃o,s.heap.get? d=some o/\o.cls=.type "tuple"
 | [],[],_=>⟨[],KatTups.nil,rfl,λd hd=>nomatch hd⟩
 | [],_::_,h=>by have:=h.1;simp at this
 |_::_,[],h=>by have:=h.1;simp at this
 |t::ts,k::ks,h=>by
  obtain⟨o,m,dt,tk,ho,hc,hd,hT⟩:=Cs I (h.2 0 t k rfl rfl);obtain⟨ds,g1,g2,g3⟩:=ur I (ts:=ts) (ks:=ks) ⟨by simpa using h.1,λi t k a b=>h.2 (i+1) t k (by simpa using a) (by simpa using b)⟩;refine⟨dt::ds,KatTups.cons ho hc hd rfl g1,by simp[g2],λd Cz=>?_⟩;rcases aB.mp Cz with rfl|q
  ·obtain⟨bU,⟨o2,Md,IU,_⟩,_⟩:=hT
   exact⟨o2,Md,IU⟩
  ·exact g3 d q
theorem IF(I:L2.Inv X pins σ H s){A:Around}{E:fw}{ts:List Addr}{ks:List KD}(hk:CY H ts ks)(h2:2<=ts.length){Q:SortKind->Shared->Prop}(h:Q (tuples' false) s):
  wpAny (model X.prog X.w) A (keyKind' (ts.map Value.ref).toArray) Q E s:=by
 obtain⟨ds,g1,g2,g3⟩:=ur I hk;refine kat_kind (T:=.type "tuple") g1 (by rw[ab,g2];omega) (λv hv=>?_) rfl h;obtain⟨d,hd,rfl⟩:=aV.mp hv;obtain⟨o,ho,hc⟩:=g3 d hd;exact λA Q E s' k q=>vV (T:="tuple") ⟨o,k _ _ ho,hc⟩ q
theorem FE(I:L2.Inv X pins σ H s){l f:Addr}{vs:List V}{ks:List KD}{r:Nat->Int}{Q:VK}(hu:X.A.units+64<cLine)(hl:cG X.K H l vs)(hlen:ks.length=vs.length)(OM:vs.length<64)
  (hr:∀(i j:Nat)(a b:KD),ks[i]?=some a->ks[j]?=some b->klt a b=decide (r i<r j))(WG:∀i j,i<vs.length->j<vs.length->r i=r j->i=j)
  (turn:∀(i:Nat)(x:V)(k:KD)(u:Value)(H':Hp)(s':Shared),vs[i]?=some x->ks[i]?=some k->RelV x u->L2.Inv X pins σ H' s'->aS H H'->wpAny (model X.prog X.w) X.A.in1.in1 (call (.ref f) [u]) (λv A0=>∃t L8,v=.ref t/\L2.Inv X pins σ L8 A0/\aS H' L8/\uR L8 k t) (λ_ _=>False) s')
  (q:∀H' D(p:List Nat),p.Perm (List.range vs.length)->(p.Pairwise λi j=>r i<r j)->aS H H'->H' D=some (.lst (p.map λi=>vs.getD i .fL))->Q (.ref D) H'):
  wpAny (model X.prog X.w) X.A (call (.builtin "sorted") [.ref l] [(Str.ofString "key",.ref f)]) (EP X pins σ Q) X.xe s:=by
 obtain⟨bU,rv,pl,hz⟩:=I.list hl;have OH:bU.length=vs.length:=rv.length.symm;have NF:bU.length<=sizeLine:=by rw[OH,bo];omega
 refine call_function_entry_kw kind_sorted plain_sorted entry_sorted (ksk_s1 _ _) ?_;unfold Builtin.«sorted»;refine aa (m:=checkCount "sorted" 1 1 _) (aj ?_);refine aa (collect_list pl.isList ?_ NF);refine aa (Mo ?_ NF);have hsz:((s.heap.push (seqObj "list" #[] 0)).update s.heap.objs.size (Obj.mapSeq (· ++bU.toArray))).objs.size=s.heap.objs.size+1:=by rw[Heap.size_update,size_push']
 have k1:∀b o,s.heap.get? b=some o->((s.heap.push (seqObj "list" #[] 0)).update s.heap.objs.size (Obj.mapSeq (· ++bU.toArray))).get? b=some o:=λb o e=>by
  have hb:=aM e;rw[Heap.get?_update_ne _ _ _ _ (a0 hb)];exact ak _ e
 generalize(s.heap.push (seqObj "list" #[] 0)).update s.heap.objs.size (Obj.mapSeq (· ++bU.toArray))=g1 at hsz k1
 have hD:(g1.push (seqObj "list" bU.toArray 0)).get? g1.objs.size=some (seqObj "list" bU.toArray 0):=aO _ rfl
 have UT:s.heap.objs.size<=g1.objs.size:=by omega
 show wpAny _ _ _ _ _ {s with heap:=g1.push (seqObj "list" bU.toArray 0)};generalize hDg:g1.objs.size=D at hD UT;have k2:∀b o,s.heap.get? b=some o->(g1.push (seqObj "list" bU.toArray 0)).get? b=some o:=λb o e=>ak _ (k1 b o e)
 have sz2:(g1.push (seqObj "list" bU.toArray 0)).objs.size=D+1:=by rw[size_push',hDg]
 generalize g1.push (seqObj "list" bU.toArray 0)=g2 at hD k2 sz2;refine aa (dX (wpAny_call_entry_kw slot_list_sort ⟨_,hD,rfl⟩ entry_list_sort ?body (ksk_l1 _ _)))
 case body=>
  show wpAny (model X.prog X.w) X.A.in1.in1 (Builtin.«list.sort» ⟨[.ref D],[(Str.ofString "key",.ref f)]⟩) _ _ _;rw[ksk_t1];unfold ksk_tree;refine aa (listItems_at hD rfl ?_);refine aa (listUpdate_at hD rfl ?_ (by rw[aU];exact NF) (bp _));obtain⟨e1,W4⟩:∃e1,(g2.update D (Obj.mapSeq λ_=>(#[]:Array Value))).get? D=some (seqObj "list" #[] e1):=⟨_,get?_update_seq hD λ_=>#[]⟩
  have k3:∀b o,s.heap.get? b=some o->(g2.update D (Obj.mapSeq λ_=>(#[]:Array Value))).get? b=some o:=λb o e=>by
   rw[Heap.get?_update_ne _ _ _ _ (a0 (bA (aM e) UT))];exact k2 b o e
  have sz3:(g2.update D (Obj.mapSeq λ_=>(#[]:Array Value))).objs.size=D+1:=by rw[Heap.size_update,sz2]
  generalize g2.update D (Obj.mapSeq λ_=>(#[]:Array Value))=g3 at W4 k3 sz3;refine aa (seqEpoch_at W4 rfl ?_);refine aa (wpAny_newTuple ?_ (by show bU.length<=_;exact NF));have I3:L2.Inv X pins σ (upd H D (oO D (seqObj "list" #[] e1))) {s with heap:=g3.push (seqObj "tuple" bU.toArray 0)}:=I.laid (t':=s.toks) (λb o e=>ak _ (k3 b o e)) UT (sG (ak _ W4));have sz4:(g3.push (seqObj "tuple" bU.toArray 0)).objs.size=D+2:=by rw[size_push',sz3]
  have nD:H D=none:=I.dy.fresh UT;have s3:aS H (upd H D (oO D (seqObj "list" #[] e1))):=aS.new nD;have Xf:upd H D (oO D (seqObj "list" #[] e1)) D=some (oO D (seqObj "list" #[] e1)):=ai;generalize upd H D (oO D (seqObj "list" #[] e1))=H3 at I3 s3 Xf;generalize g3.push (seqObj "tuple" bU.toArray 0)=g4 at I3 sz4;refine aa (Mo ?_ (bp _));refine dX ?_;have kS:(g4.push (seqObj "list" #[] 0)).get? g4.objs.size=some (seqObj "list" #[] 0):=aO _ rfl
  have nS:H3 g4.objs.size=none:=I3.dy.fresh (ay _);have I4:L2.Inv X pins σ (upd H3 g4.objs.size (.lst [])) {s with heap:=g4.push (seqObj "list" #[] 0)}:=I3.laid (t':=s.toks) (λb o e=>ak _ e) (ay _) ⟨bp _,[],0,.nil,kS⟩;have s4:aS H3 (upd H3 g4.objs.size (.lst [])):=aS.new nS;have Xe:upd H3 g4.objs.size (.lst []) g4.objs.size=some (.lst []):=ai;generalize upd H3 g4.objs.size (.lst [])=H4 at I4 s4 Xe;show wpAny _ _ _ _ _ {s with heap:=g4.push (seqObj "list" #[] 0)};generalize g4.objs.size=S at nS Xe;generalize g4.push (seqObj "list" #[] 0)=g5 at I4;unfold ksk_rest;refine aa (nq ?_);rw[List.forIn_toArray];refine aa (ksk_fold (λi s'=>∃(H':Hp)(ts:List Addr),L2.Inv X pins σ H' s'/\aS H3 H'/\H' S=some (.lst (ts.map V.ref))/\CY H' ts (ks.take i)) bU 0 _ ⟨H4,[],I4,s4,Xe,by simp,λi t k h=>by simp at h⟩ ?step ?done)
  case step=>
   rintro j u s' hx ⟨H',ts,I',s',eS,hk⟩;simp only[zI]at hk⊢;have hj:j<bU.length:=(aN.mp hx).1
   obtain⟨x,hxv,ru⟩:∃x,vs[j]?=some x/\RelV x u:=by
    have hjv:j<vs.length:=(by omega);obtain⟨u',F5,ru'⟩:=rv.get (ae hjv);rw[hx]at F5;cases F5;exact⟨_,ae hjv,ru'⟩
   have hjk:j<ks.length:=(by omega);have hkj:ks[j]?=some ks[j]:=ae hjk;refine aa (AF (eT (turn j x ks[j] u H' _ hxv hkj ru I' (s3.trans s')) (λv A0 hv=>?_) λ_ _ hF=>hF.elim));obtain⟨t,H2,rfl,I2,s2,kt⟩:=hv;dsimp only;have UX:=s2 _ _ eS;obtain⟨z,Qy,n,rk,hkl,e⟩:=I2.Ea UX;have VO:ts.length=j:=by rw[hk.1,bW];omega
   have hkits:Qy.length=ts.length:=(by rw[<-hkl,ab]);refine aa (listUpdate_at e rfl ?_ (by rw[aU,bo];omega) (bf (qO (Array.size_push ..)) (by rw[aU,bo];omega)));refine aj ⟨rfl,upd H2 S (.lst ((ts++ [t]).map V.ref)),ts++ [t],?_,?_,ai,?_⟩
   ·rw[aZ]
    exact I2.KR (t':=_) (its':=Qy++ [Value.ref t]) UX e (by simp) (rk.append (.cons rfl .nil)) (by rw[aA,ab,bo];show _+1<=_;omega)
   ·exact(s'.trans s2).gG nS
   ·rw[take_snoc hkj]
    have kp:∀{k:KD}{a:Addr},uR H2 k a->uR (upd H2 S (.lst ((ts++ [t]).map V.ref))) k a:=λ⟨dt,h1,h2⟩=>⟨dt,(Kt.lst UX) _ _ h1,(Kt.lst UX) _ _ h2⟩
    refine⟨by rw[aA,aA,hk.1];rfl,λi a k h1 h2=>?_⟩
    by_cases hi:i<ts.length
    ·rw[bq hi]at h1
     rw[bq (by rw[<-hk.1];exact hi)]at h2;exact kp ((hk.2 i a k h1 h2).same s2)
    ·have Cy:i=ts.length:=by have:=(aN.mp h1).1;simp at this;omega
     subst Cy;rw[bD (ay _),gY]at h1;rw[hk.1,bD (ay _),gY]at h2;cases h1;cases h2;exact kp kt
  case done=>
   rintro A0 ⟨H',ts,I',s',eS,hk⟩;rw[zI,zJ (by omega)]at hk;have VO:ts.length=vs.length:=by rw[hk.1,hlen]
   obtain⟨z,Qy,n,rk,hkl,e⟩:=I'.Ea eS;have ek:=lh rk;subst ek;refine aa (listItems_at e rfl ?_);have eD:=s' _ _ Xf;have hSn:H S=none:=s3.free nS;have hDS:D≠S:=aR Xf nS;have tail:∀(st:SortSt)(p:List Nat),p.Perm (List.range vs.length)->(p.Pairwise λi j=>r i<r j)->(arrOf st).map (·.2)=List.toArray (p.map λi=>bU.getD i Value.none)->failedOf st=none->
     wpAny (model X.prog X.w) X.A.in1.in1 (ksk_tail D false e1 (.ref S) st) (λfin s'=>∃v,fin=PySem.Fin.done (Flow.ret v)/\wpAny (model X.prog X.w) X.A.in1 (ret (Value.ref D)) (λfin s'=>∃v,fin=PySem.Fin.done (Flow.ret v)/\EP X pins σ Q v s') X.xe s') X.xe A0:=λst p hp E8 WU hf=>by
    have lp:p.length=vs.length:=(by rw[hp.length_eq,JB]);unfold ksk_tail;dsimp only;rw[WU];have I1:L2.Inv X pins σ (upd H' S (.lst [])) {A0 with heap:=A0.heap.update S (Obj.mapSeq λ_=>(#[]:Array Value))}:=I'.KR (t':=A0.toks) (f:=λ_=>#[]) (its':=[]) eS e rfl .nil (bp _);have eD1:upd H' S (.lst []) D=some (oO D (seqObj "list" #[] e1)):=by rw[aG hDS];exact eD
    have oD:(A0.heap.update S (Obj.mapSeq λ_=>(#[]:Array Value))).get? D=some (seqObj "list" #[] e1):=vA I1 eD1
    refine aa (listUpdate_at e rfl ?_ (by rw[aU,ab,VO,bo];omega) (bp _));refine aa (Jx ?_);refine aa (seqEpoch_at oD rfl ?_);refine aa (listUpdate_at oD rfl ?_ (bp _) ?_)
    ·rw[hf]
     simp only[bne_self_eq_false,aX,cE];refine aj ⟨_,rfl,aj ⟨_,rfl,.ref D,upd (upd H' S (.lst [])) D (.lst (p.map λi=>vs.getD i .fL)),?_,rfl,?_⟩⟩
     ·obtain⟨c2,IU⟩:∃c2,((A0.heap.update S (Obj.mapSeq λ_=>(#[]:Array Value))).update D (Obj.mapSeq λ_=>List.toArray (p.map λi=>bU.getD i Value.none))).get? D=some (seqObj "list" (List.toArray (p.map λi=>bU.getD i Value.none)) c2):=⟨_,get?_update_seq oD λ_=>List.toArray (p.map λi=>bU.getD i Value.none)⟩
      refine I1.write (t':=A0.toks) (x:=D) (e:=D) (by rw[eD1];exact trivial) (.inl rfl) (λb u hb F5=>(gJ _ _ (fZ hb)).trans F5) ⟨_,IU⟩ ⟨by rw[ab,lp,bo];omega,_,c2,?_,IU⟩
      have all:∀q:List Nat,(∀i∈q,i<vs.length)->Vals (q.map λi=>vs.getD i .fL) (q.map λi=>bU.getD i Value.none):=by
       intro q
       induction q with
       |nil=>intro _;exact .nil
       |cons a q ih=>
        intro h;have ha:=h a ax;obtain⟨u,F5,ru⟩:=rv.get (ae ha);refine .cons ?_ (ih λi hi=>h i (ao _ hi));show RelV (vs.getD a .fL) (bU.getD a Value.none);rw[aE,ae ha,aE,F5];exact ru
      exact all p λi hi=>dI.mp (hp.mem_iff.mp hi)
     ·exact q _ D p hp E8 (((s3.trans s').gG hSn).gG nD) ai
    ·show(List.toArray (p.map λi=>bU.getD i Value.none)).size<=_
     rw[aU,ab,lp,bo];omega
   have l2:(ts.map Value.ref).length=bU.length:=by rw[ab,VO,OH]
   unfold ksk_end;dsimp only;rw[aw aK]
   by_cases h2:bU.toArray.size<2
   ·rw[az h2,az h2]
    refine aa (aj ?_);rw[StateT.run_pure];refine aa (aj ?_);dsimp only;rw[aU,OH]at h2;refine tail _ (List.range vs.length) (C6 _) ?_ ?_ rfl
    ·rw[cD]
     intro i j hi hj Es;rw[JB]at hi hj;omega
    ·apply Array.toList_inj.mp
     show(((ts.map Value.ref).toArray.zip bU.toArray).map (·.2)).toList=_
     rw[oA,ksk_zip,List.map_snd_zip (by simpa using qO l2.symm),<-OH];refine List.ext_getElem (by simp) λi h1 h3=>?_
     simp[h1]
   ·rw[aw h2,aw h2]
    rw[aU]at h2;refine aa (IF I' hk (by omega) ?_);have cm:PbKs.Cm bU.length r (kas_ask X.prog X.w X.A.in1.in1 (tuples' false) (ts.map Value.ref)) A0:=⟨λi j C hi hj h=>by
     have uU:i<ks.length:=(by omega);have F7:j<ks.length:=by omega
     refine L0 I' (by show X.A.units+1+1+8<cLine;omega) hk (ae uU) (ae F7) ?_;rw[hr i j _ _ (ae uU) (ae F7)];exact h,λi j hi hj e=>WG i j (by omega) (by omega) e⟩
    refine aa (eT (kat_run (G:=λp FJ=>FJ=A0/\PbKs.Pl bU.length p/\PbKs.Jv r p bU.length) (Q:=λtu FJ=>FJ=A0/\failedOf tu=none/\∃p:Array Nat,PbKs.Pl bU.length p/\PbKs.Jv r p bU.length/\arrOf tu=p.map (kas_item ((ts.map Value.ref).toArray.zip bU.toArray))) l2 (by omega) (by omega) (λp tu FJ h1 h2 h3 h4=>⟨h4.1,h3,p,h4.2.1,h4.2.2,h2⟩)
     (PbKs.MR cm (by omega) λp hp ha=>⟨rfl,hp,ha⟩)) ?_ λ_ _ x=>x)
    rintro⟨⟨⟩,tu⟩ FJ ⟨rfl,hf,p,hp,ha,WU⟩;dsimp only;refine tail tu p.toList (by rw[<-OH];exact hp.perm) ?_ (kat_snds l2 WU) hf;rw[cD];intro i j hi hj Es;rw[bh,hp.sz]at hi hj;have g:∀{k:Nat}(hk:k<p.toList.length),p.getD k 0=p.toList[k]:=λ{k}hk=>by simp[Array.getD,show k<p.size by simpa using hk]
    have q:=ha i j Es hj;unfold PbKs.R at q;rw[g (by simpa[hp.sz]using hi),g (by simpa[hp.sz]using hj)]at q;exact q
end
end Pr
namespace Pr
open PySem PySem.Spec PyProof.Rows L2
def PM:Nat->Bool:=λ_=>false
theorem qP:∀{us:List Value}{ns:List Int},IntsAre us ns->∀i,tupItems PM i us=some (ns.map Sum.inl)
 |_,_,.nil,i=>by simp[tupItems]
 |_,_,.cons n t r,i=>by
  have ih:=qP r (i+1);simp[tupItems,PM]at ih⊢;rw[ih]
theorem AL{h:Heap}{a:Addr}{ns:List Int}(x:TupIs h a ns):G.tupKeyC h PM (.ref a)=some (ns.map Sum.inl):=by
 obtain⟨bU,⟨o,ho,hc,n,hd⟩,r⟩:=x;unfold G.tupKeyC;have e:G.isTupObj h (.ref a)=true:=by simp[G.isTupObj,ho,hc]
 rw[az e];simp only[tupKey,ho,hd];exact qP r 0
theorem Hc:∀ns ms:List Int,PyProof.Rows.lexLt itemOrd (ns.map Sum.inl) (ms.map Sum.inl)=HT.lexLt ns ms
 | [],[]=>rfl
 | [],_::_=>rfl
 |_::_,[]=>rfl
 |n::ns,m::ms=>by
  rw[aT,aT,HT.sE]
  by_cases h:n=m
  ·rw[az h,h]
   have q:=PyProof.Rows.lex_self (O:=itemOrd) (Sum.inl m) (ns.map Sum.inl) (ms.map Sum.inl);rw[q];exact Hc ns ms
  ·rw[aw h]
   have q:=PyProof.Rows.lex_diff (O:=itemOrd) (x:=Sum.inl n) (y:=Sum.inl m) (r:=ns.map Sum.inl) (t:=ms.map Sum.inl) (λe=>h (by injection e));rw[q];rfl
theorem JV{h:Heap}:∀{vs:List Value},(∀v∈vs,∃a n ns,v=.ref a/\TupIs h a (n::ns))->∃fs,TupsOf h PM vs fs
 | [],_=>⟨[],.nil⟩
 |v::vs,k=>by
  obtain⟨fs,hf⟩:=JV (vs:=vs) λv hv=>k v (ao _ hv)
  obtain⟨a,n,ns,rfl,bU,⟨o,ho,hc,m,hd⟩,r⟩:=k v ax;cases r with
  |cons n' t r=>
   exact⟨.int n t::fs,.cons ⟨a,o,_,m,rfl,ho,hc,hd,by simp,λ_=>⟨n,t,rfl⟩,λe=>nomatch e⟩ hf⟩
theorem TupIs.kept{h h':Heap}{a:Addr}{ns:List Int}(x:TupIs h a ns)(k:∀b o,h.get? b=some o->h'.get? b=some o):TupIs h' a ns:=by
 obtain⟨bU,⟨o,ho,r⟩,ri⟩:=x;exact⟨bU,⟨o,k _ _ ho,r⟩,ri⟩
section
variable{prog:Program}{w:World}{A:Around}{E:fw}{s:Shared}
theorem Dy{x:Addr}{vs0:List Value}{Q:fw}(OM:vs0.length<=1000)(hv:∀v∈vs0,∃a n ns,v=.ref a/\TupIs s.heap a (n::ns))
  (hc:∀(A':Around)(E':fw)(R:List Value->Shared->Prop),A'.handled=A.handled->(∀h' tk vs,s.heap.objs.size<h'.objs.size->(∀b o,s.heap.get? b=some o->h'.get? b=some o)->vs.Perm vs0->R vs {s with heap:=h',toks:=tk})->wpAny (model prog w) A' (collect (.ref x)) R E' s)
  (h:∀h' tk D out c,(∀b o,s.heap.get? b=some o->h'.get? b=some o)->s.heap.objs.size<=D->h'.get? D=some (seqObj "list" out c)->out.toList.Perm vs0->(out.toList.Pairwise λu v=>∀a b ns ms,u=.ref a->v=.ref b->TupIs s.heap a ns->TupIs s.heap b ms->HT.lexLt ms ns=false)->Q (.ref D) {s with heap:=h',toks:=tk}):
  wpAny (model prog w) A (call (.builtin "sorted") [.ref x]) Q E s:=by
 refine zL kind_sorted plain_sorted entry_sorted (args_sorted1 _) ?_;unfold Builtin.«sorted»;refine aa (m:=checkCount "sorted" 1 1 _) (aj ?_);refine aa (hc _ _ _ rfl λh' tk vs sz k hp=>?_);have hlv:vs.length=vs0.length:=hp.length_eq;have hL:vs.length<=sizeLine:=by rw[bo];omega
 refine aa (Mo ?_ hL);have NI:(h'.push (seqObj "list" vs.toArray 0)).get? h'.objs.size=some (seqObj "list" vs.toArray 0):=aO _ rfl
 have kk:∀b o,s.heap.get? b=some o->(h'.push (seqObj "list" vs.toArray 0)).get? b=some o:=λb o e=>ak _ (k b o e)
 show wpAny _ _ _ _ _ {s with heap:=h'.push (seqObj "list" vs.toArray 0),toks:=tk};have hv2:∀v∈vs,∃a n ns,v=.ref a/\TupIs (h'.push (seqObj "list" vs.toArray 0)) a (n::ns):=λv hm=>by
  obtain⟨a,n,ns,e,ht⟩:=hv v (hp.mem_iff.mp hm);exact⟨a,n,ns,e,ht.kept kk⟩
 obtain⟨fs,hf⟩:=JV hv2;refine aa (dX (dC slot_list_sort ⟨_,NI,rfl⟩ entry_list_sort (G.list_sort_tups (shape:=PM) NI hf (λv hm=>?_) hL λtu a1 a2 a3=>⟨_,rfl,?_⟩) (args_list_sort _)))
 ·obtain⟨a,n,ns,e,ht⟩:=hv2 v hm
  subst e;exact⟨_,AL ht⟩
 obtain⟨c,QW⟩:=sortedHeap_at (vs:=vs) (out:=(arrOf tu).map (·.2)) NI
 have pl:(arrOf tu).toList.Perm (pairsOf vs).toList:=Array.perm_iff_toList_perm.mp a1
 have dup:∀q∈(arrOf tu).toList,q.1=q.2:=λq hq=>by
  have m:=pl.mem_iff.mp hq;rw[pairsOf_toList]at m;exact(mem_zip_self m).1
 have p2:((arrOf tu).map (·.2)).toList.Perm vs:=by
  rw[oA];have e:(pairsOf vs).toList.map (·.2)=vs:=by rw[pairsOf_toList,List.map_snd_zip (ay _)]
  have q:=pl.map (·.2);rw[e]at q;exact q
 refine aj ⟨_,rfl,h _ tk h'.objs.size ((arrOf tu).map (·.2)) c (λb o e=>?_) (gZ sz) QW (p2.trans hp) ?_⟩
 ·have hb:=aM (k b o e)
  rw[sortedHeap_old (a0 hb) (by rw[bT];exact fc hb)];exact ak _ (k b o e)
 ·rw[oA,cy,cD]
  intro i j hi hj Es a b ns ms ea eb ta tb;rw[bh]at hi hj;have si:(arrOf tu).size=(pairsOf vs).size:=a1.size_eq
  have q:=a2 i j (gZ Es) (by rw[<-si];exact hj);have KKe:∀{m:Nat}(hm:m<(arrOf tu).size) {d:Addr} {ks:List Int},(arrOf tu).toList[m].2=.ref d->TupIs s.heap d ks->KK (G.tupKindC (h'.push (seqObj "list" vs.toArray 0)) PM) (arrOf tu) m=ks.map Sum.inl:=λ{m}hm{d ks}e t=>by
   have e1:=dup _ (bL (l:=(arrOf tu).toList) (by simpa using hm))
   unfold KK;rw[fA hm];have e2:((arrOf tu)[m]).1=.ref d:=by rw[<-Array.getElem_toList,e1];exact e
   show(G.tupKeyC _ PM ((arrOf tu)[m]).1).getD []=_
   rw[e2,AL (t.kept kk)];rfl
  rw[KKe hi ea ta,KKe hj eb tb]at q;have q:PyProof.Rows.lexLt itemOrd (ms.map Sum.inl) (ns.map Sum.inl)=false:=q;rw[Hc]at q;exact q
end
theorem EG{X:Cx}(hc:X.calm=true)(hu:X.A.units+64<cLine):jC X (.builtin "sorted") (λxs H Q=>∃(p:Addr)(o:Obj)(vs:List Value)(ks:List (List Int)),xs=[V.ref p]/\H p=some (oO p o)/\sY X.w o vs/\OY X.K H vs ks/\(∀k∈ks,k≠ [])/\
  ∀(ks':List (List Int))(as:List Addr)(l:Addr),ks'.Perm ks->(ks'.Pairwise λa b=>HT.lexLt b a=false)->sX X.K H as ks'->H l=none->Q (.ref l) (upd H l (.lst (as.map V.ref)))):=by
 intro pins s σ H xs us Q I r h;obtain⟨p,o,vs,ks,rfl,hp,S,V1,vE,q⟩:=h;rw[Vals.yl r];obtain⟨es,ep,t,W,hs,e⟩:=S.walk (vA I hp);have lv:vs.length<=12:=by rw[e,ab,bh];exact hs
 have each:∀v∈vs,∃a n ns,v=.ref a/\TupIs s.heap a (n::ns):=λv hv=>by
  obtain⟨k,hk,a,ea,ha⟩:=V1.1 v hv;obtain⟨n,ns,ek⟩:∃n ns,k=n::ns:=by cases k with
   |nil=>exact absurd rfl (vE _ hk)
   |cons n ns=>exact⟨n,ns,rfl⟩
  exact⟨a,n,ns,ea,by rw[<-ek];exact g0 I ha⟩
 refine Dy (vs0:=vs) (by omega) each (λA' E' R hA hR=>?_) λh' tk D out c k sz eo QJ E8=>?_
 ·refine PbSet.zl (hA.trans (I.ok.hd hc)) W (by rw[bo];omega) λh' tk Ob sz k pm=>hR h' tk Ob sz k (by rw[e];exact pm)
 ·
  have key:∀l:List Value,(∀v∈l,v∈vs)->∃(as:List Addr)(ks':List (List Int)),l=as.map Value.ref/\sX X.K H as ks'/\(∀k∈ks',k∈ks):=by
   intro l
   induction l with
   |nil=>intro _;exact⟨[],[],rfl,⟨rfl,λi a m h=>by simp at h⟩,λk hk=>nomatch hk⟩
   |cons v l ih=>
    intro hm;obtain⟨as,ks',e1,e2,e3⟩:=ih λv hv=>hm v (ao _ hv)
    obtain⟨k,hk,a,ea,ha⟩:=V1.1 v (hm v ax);refine⟨a::as,k::ks',by rw[ea,e1];rfl,⟨by simp[e2.1],λi b m h1 h2=>?_⟩,λk' F6=>(aB.mp F6).elim (λe=>by rw[e];exact hk) (e3 k')⟩
    cases i with
    |zero=>cases h1;cases h2;exact ha
    |succ i=>exact e2.2 i b m (by simpa using h1) (by simpa using h2)
  obtain⟨as,ks',e1,e2,e3⟩:=key out.toList λv hv=>QJ.mem_iff.mp hv
  have lo:ks'.length=ks.length:=by rw[<-e2.1,<-V1.2.2.2,<-QJ.length_eq,e1,ab]
  have sub:∀k∈ks,k∈ks':=λk hk=>by
   obtain⟨v,hv,a,ea,ha⟩:=V1.2.1 k hk;have m:=QJ.mem_iff.mpr hv;rw[e1,ea]at m;obtain⟨a',TJ,ee⟩:=aV.mp m;cases ee;obtain⟨i,hi,ei⟩:=a8.mp TJ;have him:i<ks'.length:=by rw[<-e2.1];exact hi
   have t1:=g0 I (e2.2 i a ks'[i] (by rw[ae hi,ei]) (ae him));have t2:=g0 I ha;rw[t2.inj t1];exact bL _
  have pk:ks'.Perm ks:=(PbSet.xx V1.2.2.1 sub lo).symm
  have pw:ks'.Pairwise λa b=>HT.lexLt b a=false:=by
   rw[cD]at E8⊢;intro i j hi hj Es;have Cy:i<as.length:=by rw[e2.1];exact hi
   have RG:j<as.length:=by rw[e2.1];exact hj
   have hio:i<out.toList.length:=by rw[e1,ab];exact Cy
   have hjo:j<out.toList.length:=by rw[e1,ab];exact RG
   refine E8 i j hio hjo Es as[i] as[j] _ _ ?_ ?_ (g0 I (e2.2 i as[i] ks'[i] (ae Cy) (ae hi))) (g0 I (e2.2 j as[j] ks'[j] (ae RG) (ae hj)))
   ·simp[e1]
   ·simp[e1]
  have hlen:(as.map V.ref).length<=sizeLine:=by rw[ab,e2.1,lo,<-V1.2.2.2,bo];omega
  have vals:∀l:List Addr,Vals (l.map V.ref) (l.map Value.ref):=λl=>by
   induction l with
   |nil=>exact .nil
   |cons a l ih=>exact .cons rfl ih
  exact⟨.ref D,upd H D (.lst (as.map V.ref)),I.laid k sz ⟨hlen,out.toList,c,by rw[e1];exact vals as,by simpa using eo⟩,rfl,q ks' as D pk pw e2 (I.dy.fresh sz)⟩
end Pr
namespace Pr
open PySem PySem.Spec PyProof.Rows L2 Vbptae
section
variable{P:Program}{w:World}{K:c9}{mg:jB}{base:Heap}
def Pz:Sp:=λvs H Q _=>∃y:Nat,vs=[.int y]/\Q (.bl (leap y)) H
theorem wY(T:Tx K mg base):Ok P w base 1 T.oe (Pz):=by
 refine T.oe.ok wU λH vs Q E hr h=>?_
 obtain⟨y,rfl,k⟩:=h;refine⟨_,(au (aH (pI (gg eA (dr vh (pv 0) aC) aC (bK _)) (nQ (Ox (gg DS (dr vh (pv 0) aC) aC (bK _)) (nQ (gg eA (dr vh (pv 0) aC) aC (bK _)))))))),?_⟩;refine⟨_,rfl,_,_,rfl,rfl,(by show(0:Int)<4;decide),rfl,_,rfl,kg (λh1=>?_) (λh1=>?_)⟩
 ·refine⟨_,rfl,_,_,rfl,rfl,(by show(0:Int)<100;decide),rfl,_,rfl,Ek (λh2=>?_) (λh2=>?_)⟩
  ·have e:leap y=true:=by unfold leap;simp;omega
   rw[e]at k;exact k
  ·refine⟨_,rfl,_,_,rfl,rfl,(by show(0:Int)<400;decide),rfl,?_⟩
   have e:leap y=decide (V.int ((y:Int)%400)=V.int 0):=by
    rw[xa]
    by_cases h3:(y:Int)%400=0
    ·rw[aJ h3];unfold leap;simp;omega
    ·rw[aD h3];unfold leap;simp;omega
   rw[e]at k;exact k
 ·have e:leap y=false:=by unfold leap;simp;omega
  rw[e]at k;exact k
def ME:Sp:=λvs H Q _=>∃y m:Nat,vs=[.int y,.int m]/\∀H',aS H H'->Q (.int (monthLength y m)) H'
theorem iT(T:Tx K mg base):Ok P w base 2 T.iw (ME):=by
 refine T.iw.ok wR λH vs Q E hr h=>?_
 obtain⟨y,m,rfl,k⟩:=h;refine⟨_,(af (bt (bB eA (pv 1) aC (bK _)) (au (aH (yt (cR (pc T.oe (wY T) hr (av 0 ah))) aC aC))) aQ)
   (au (aH (yt (bB A4 (pv 1) (nO (ag aC (ag aC (ag aC (ag aC ah))))) (by with_unfolding_all rfl)) aC aC)))),?_⟩
 refine⟨_,rfl,rfl,_,rfl,kg (λh1=>?_) (λh1=>?_)⟩
 ·refine⟨_,rfl,y,rfl,_,rfl,mY (λh2=>?_) (λh2=>?_)⟩
  ·have e:monthLength y m=29:=by unfold monthLength;rw[az (by omega),az h2]
   have q:=k H (aS.refl _);rw[e]at q;exact q
  ·have e:monthLength y m=28:=by unfold monthLength;rw[az (by omega),aw (by rw[h2];decide)]
   have q:=k H (aS.refl _);rw[e]at q;exact q
 ·refine⟨_,rfl,(by show 4<=sizeLine;decide),λt ht=>⟨_,_,rfl,.inr (c8.of ai),rfl,rfl,_,rfl,?_⟩⟩
  have z:QG (V.int m) [V.int 4,V.int 6,V.int 9,V.int 11]=decide (m=4\/m=6\/m=9\/m=11):=by
   rw[bz];simp[QG,Ml];omega
  rw[aw aK,z];refine jb (λh2=>?_) (λh2=>?_)
  ·have e:monthLength y m=30:=by unfold monthLength;rw[aw (by omega),az h2]
   rw[e]at k;exact k _ (aS.new ht)
  ·have e:monthLength y m=31:=by unfold monthLength;rw[aw (by omega),aw h2]
   rw[e]at k;exact k _ (aS.new ht)
theorem c8.uk{K:c9}{H H':Hp}{a:Addr}{xs:List V}(e:aS H H')(h:c8 K H a xs):c8 K H' a xs:=e.kl.AQ h
def J4(K:c9):Sp:=λvs H Q _=>∃(a:Addr)(y m d:Int),vs=[.ref a]/\c8 K H a [.int y,.int m,.int d]/\∀H',aS H H'->Q (.bl (decide (Pb.gu y m d))) H'
theorem hU(T:Tx K mg base):Ok P w base 3 T.j6 (J4 K):=by
 refine T.j6.ok FI λH vs Q E hr h=>?_
 obtain⟨a,y,m,d,rfl,ha,k⟩:=h;refine⟨_,(af (bt (cZ (uc hG hG (bX rfl T.CN) (cA dg (pv 0) aC (λ_ _=>rfl)) (bX rfl T.EN))) (au (aH jo)) aQ)
   (af (bt (cZ (uc hG hG aC (cA dg (pv 0) aC (λ_ _=>rfl)) aC)) (au (aH jo)) aQ)
   (au (aH (kd hG hG aC (cA dg (pv 0) aC (λ_ _=>rfl)) (pc T.iw (iT T) hr (ag (cA dg (pv 0) aC (λ_ _=>rfl)) (ag (cA dg (pv 0) aC (λ_ _=>rfl)) ah)))))))),?_⟩
 have no:¬Pb.gu y m d->∀H',aS H H'->Q (.bl false) H':=λh H' s=>by have q:=k H' s;rw[aD h]at q;exact q
 refine⟨_,rfl,_,_,_,_,rfl,rfl,ha,rfl,_,_,rfl,rfl,_,rfl,jb (λh1=>?_) (λh1=>?_)⟩
 ·refine⟨_,_,rfl,rfl,_,rfl,gS (λh2=>no (λq=>h2 q.2.1) _ (aS.refl _)) (λh2=>?_)⟩
  refine⟨_,rfl,_,_,_,_,rfl,rfl,ha,rfl,_,_,rfl,rfl,_,rfl,jb (λh3=>?_) (λh3=>?_)⟩
  ·refine⟨_,_,rfl,rfl,_,rfl,gS (λh4=>no (λq=>h4 q.2.2.2.1) _ (aS.refl _)) (λh4=>?_)⟩
   refine⟨_,rfl,_,_,_,_,rfl,rfl,ha,rfl,_,_,rfl,rfl,_,rfl,jb (λh5=>?_) (λh5=>no (λq=>h5 q.2.2.2.2.1) _ (aS.refl _))⟩;refine⟨_,rfl,_,_,_,_,rfl,rfl,ha,rfl,_,rfl,_,_,_,_,rfl,rfl,ha,rfl,y.toNat,m.toNat,(by show [V.int y,V.int m]=_;rw[du (by omega),du (by omega)]),λH' s=>⟨_,_,rfl,rfl,?_⟩⟩;have e:decide (Pb.gu y m d)=decide (d<=(monthLength y.toNat m.toNat:Int)):=by
    by_cases h6:d<=(monthLength y.toNat m.toNat:Int)
    ·rw[aJ h6,aJ ⟨h1,h2,h3,h4,h5,h6⟩]
    ·rw[aD h6,aD λq=>h6 q.2.2.2.2.2]
   have q:=k H' s;rw[e]at q;exact q
  ·exact⟨_,rfl,gU (no (λq=>h3 q.2.2.1) _ (aS.refl _))⟩
 ·exact⟨_,rfl,gU (no (λq=>h1 q.1) _ (aS.refl _))⟩
def VN(n:Nat):Prop:=∃y m d,Pb.Vd y m d/\dayOf y m d=n
theorem wO{y m d:Nat}(v:Pb.Vd y m d):dv (dayOf y m d)=[V.int y,V.int m,V.int d]:=by
 unfold dv Vbptae.shown;rw[v.dateOf];rfl
theorem eW{n:Nat}(h:Pb.qm n):VN n:=let⟨y,m,d,v,_,e⟩:=h;⟨y,m,d,v,e⟩
def HQ(K:c9):Sp:=λvs H Q _=>∃(a:Addr)(n:Nat),vs=[.ref a]/\c8 K H a (dv n)/\VN n/\∀H',aS H H'->Q (.int (n%7:Nat)) H'
theorem FU(T:Tx K mg base):Ok P w base 3 T.weekday (HQ K):=by
 have nd:=x8.nd;refine T.weekday.ok x8 λH vs Q E hr h=>?_
 obtain⟨a,_,rfl,ha,⟨y,m,d,v,rfl⟩,k⟩:=h;refine⟨_,(af (sl 1 nd (dr FR (cA dg (pv 0) aC (λ_ _=>rfl)) aC))
   (af (sl 2 nd (dr jr (dr FR (dr jr (dr Qc aC (pv 1)) (dr Ca (pv 1) aC)) (dr Ca (pv 1) aC)) (dr Ca (pv 1) aC)))
   (af (lG cX rfl (Il rfl T.HA (ag aC (ag (cA dg (pv 0) aC (λ_ _=>rfl)) ah))) (gl 3 nd) (au (PZ (i:=2) nd rfl (Or.inl rfl) (pc T.iw (iT T) hr (ag (cA dg (pv 0) aC (λ_ _=>rfl)) (av 3 ah))) QF)))
   (au (aH (dr vh (dr FR (dr jr (pv 2) (cA dg (pv 0) aC (λ_ _=>rfl))) aC) aC)))))),?_⟩
 rw[wO v]at ha;have y1:=v.y1;have y2:=v.y2;have m1:=v.m1;have m2:=v.m2;refine⟨_,rfl,_,_,_,_,rfl,rfl,ha,rfl,_,_,rfl,rfl,?_⟩;refine⟨_,rfl,_,_,rfl,rfl,.inl ⟨by decide,by decide⟩,_,rfl,_,_,rfl,rfl,⟨by decide,by decide⟩,_,_,rfl,rfl,_,rfl,_,_,rfl,rfl,⟨by decide,by decide⟩,_,_,rfl,rfl,_,rfl,_,_,rfl,rfl,⟨by decide,by decide⟩,_,_,rfl,rfl,?_⟩;refine⟨_,rfl,_,_,_,_,rfl,rfl,ha,rfl,1,m,rfl,⟨by decide,by decide,by omega,by omega⟩,I0 (λi σ H'=>∃u:Option V,aS H H'/\σ=[some (.ref a),some (.int ((y:Int)-1)),some (.int (365*((y:Int)-1)+((y:Int)-1)/4-((y:Int)-1)/100+((y:Int)-1)/400+(monthStart y (i+1):Int))),u]) ⟨none,aS.refl _,?_⟩ ?_ ?_⟩
 ·show _=_
  rw[Pb.G9,Int.natCast_zero,Int.add_zero];rfl
 ·rintro i σ H' hi ⟨u,s,rfl⟩
  refine⟨_,rfl,_,rfl,_,_,_,_,rfl,rfl,(c8.uk s ha),rfl,_,rfl,y,1+i,(by show [V.int _,V.int _]=_;rw[Int.natCast_add];rfl),λH2 s2=>⟨_,_,rfl,rfl,some (.int (1+(i:Int))),s.trans s2,?_⟩⟩;rw[Pb.iY (show 1<=i+1 by omega),Nat.add_comm 1 i,Int.natCast_add,<-Int.add_assoc];rfl
 ·rintro σ H' ⟨u,s,rfl⟩
  refine⟨_,rfl,_,rfl,_,_,_,_,rfl,rfl,(c8.uk s ha),rfl,_,_,rfl,rfl,_,_,rfl,rfl,_,_,rfl,rfl,(by show(0:Int)<7;decide),?_⟩;have e:((m:Int)-1).toNat+1=m:=by omega
  rw[e];have q:=k H' s;rw[<-Pb.Fo v]at q;exact q
def Oj(K:c9)(C:Nat->Prop)(f:Nat->Nat):Sp:=λvs H Q _=>∃(a:Addr)(n:Nat),vs=[.ref a]/\c8 K H a (dv n)/\C n/\∀H' p,aS H H'->H p=none->H' p=some (.tup (dv (f n)))->Q (.ref p) H'
theorem Ci(T:Tx K mg base):Ok P w base 3 T.vM (Oj K (λn=>VN n/\n+1<yearStart 2209) (λn=>n+1)):=by
 refine T.vM.ok BF λH vs Q E hr h=>?_
 obtain⟨a,_,rfl,ha,⟨⟨y,m,d,v,rfl⟩,hs⟩,k⟩:=h;refine⟨_,(af (bt (bB A3 (cA dg (pv 0) aC (λ_ _=>rfl)) (pc T.iw (iT T) hr (ag (cA dg (pv 0) aC (λ_ _=>rfl)) (ag (cA dg (pv 0) aC (λ_ _=>rfl)) ah))) (bK _)) (au (aH (nO (ag (cA dg (pv 0) aC (λ_ _=>rfl)) (ag (cA dg (pv 0) aC (λ_ _=>rfl)) (ag (dr jr (cA dg (pv 0) aC (λ_ _=>rfl)) aC) ah)))))) aQ)
   (af (bt (bB A3 (cA dg (pv 0) aC (λ_ _=>rfl)) aC (bK _)) (au (aH (nO (ag (cA dg (pv 0) aC (λ_ _=>rfl)) (ag (dr jr (cA dg (pv 0) aC (λ_ _=>rfl)) aC) (ag aC ah)))))) aQ)
   (au (aH (nO (ag (dr jr (cA dg (pv 0) aC (λ_ _=>rfl)) aC) (ag aC (ag aC ah)))))))),?_⟩
 rw[wO v]at ha;refine⟨_,rfl,_,_,_,_,rfl,rfl,ha,rfl,_,rfl,_,_,_,_,rfl,rfl,ha,rfl,_,rfl,_,_,_,_,rfl,rfl,ha,rfl,y,m,rfl,λH1 s1=>⟨_,_,rfl,rfl,_,rfl,jb (λh1=>?_) (λh1=>?_)⟩⟩
 ·obtain⟨v2,e2⟩:=Pb.G6 v (by omega)
  refine⟨_,rfl,_,_,_,_,rfl,rfl,(c8.uk s1 ha),rfl,_,rfl,_,_,_,_,rfl,rfl,(c8.uk s1 ha),rfl,_,rfl,_,_,_,_,rfl,rfl,(c8.uk s1 ha),rfl,_,_,rfl,rfl,(by show 3<=sizeLine;decide),λp hp=>k _ p (s1.trans (aS.new hp)) (s1.free hp) ?_⟩;rw[ai];show _=some (HO.tup (dv (dayOf y m d+1)));rw[<-e2,wO v2];rfl
 ·refine⟨_,rfl,_,_,_,_,rfl,rfl,(c8.uk s1 ha),rfl,_,_,rfl,rfl,_,rfl,jb (λh2=>?_) (λh2=>?_)⟩
  ·obtain⟨v2,e2⟩:=Pb.yD v (by omega) (by omega)
   refine⟨_,rfl,_,_,_,_,rfl,rfl,(c8.uk s1 ha),rfl,_,rfl,_,_,_,_,rfl,rfl,(c8.uk s1 ha),rfl,_,_,rfl,rfl,(by show 3<=sizeLine;decide),λp hp=>k _ p (s1.trans (aS.new hp)) (s1.free hp) ?_⟩;rw[ai];show _=some (HO.tup (dv (dayOf y m d+1)));rw[<-e2,wO v2];rfl
  ·obtain⟨v2,e2⟩:=Pb.A5 v (by omega) (by omega) (v.DY hs)
   refine⟨_,rfl,_,_,_,_,rfl,rfl,(c8.uk s1 ha),rfl,_,_,rfl,rfl,(by show 3<=sizeLine;decide),λp hp=>k _ p (s1.trans (aS.new hp)) (s1.free hp) ?_⟩;rw[ai];show _=some (HO.tup (dv (dayOf y m d+1)));rw[<-e2,wO v2];rfl
theorem Ah(T:Tx K mg base):Ok P w base 3 T.rV (Oj K Pb.qm yearLater):=by
 have nd:=qR.nd;refine T.rV.ok qR λH vs Q E hr h=>?_
 obtain⟨a,_,rfl,ha,⟨y,m,d,v,hy,rfl⟩,k⟩:=h;refine⟨_,(af (sl 1 nd (dr jr (cA dg (pv 0) aC (λ_ _=>rfl)) aC))
   (au (aH (nO (av 1 (ag (cA dg (pv 0) aC (λ_ _=>rfl)) (ag (bQ (Jm rfl) (by rfl) T.T8 boot_min (ag (cA dg (pv 0) aC (λ_ _=>rfl)) (ag (pc T.iw (iT T) hr (av 1 (ag (cA dg (pv 0) aC (λ_ _=>rfl)) ah))) ah))) ah))))))),?_⟩
 rw[wO v]at ha;obtain⟨v2,e2⟩:=Pb.later v (by omega);refine⟨_,rfl,_,_,_,_,rfl,rfl,ha,rfl,_,_,rfl,rfl,?_⟩;refine⟨_,rfl,_,rfl,_,_,_,_,rfl,rfl,ha,rfl,_,rfl,_,_,_,_,rfl,rfl,ha,rfl,_,rfl,_,rfl,_,_,_,_,rfl,rfl,ha,rfl,y+1,m,rfl,λH1 s1=>⟨_,_,rfl,(by show 3<=sizeLine;decide),λp hp=>k _ p (s1.trans (aS.new hp)) (s1.free hp) ?_⟩⟩;rw[ai,e2,wO v2];have e:(if((monthLength (y+1) m:Nat):Int)<(d:Int)then((monthLength (y+1) m:Nat):Int)else(d:Int))=((min d (monthLength (y+1) m):Nat):Int):=by
  split<;>omega
 rw[e];rfl
def Sj(f:Int->Bool):Sp:=λvs H Q _=>∃n:Int,vs=[.int n]/\Q (.bl (f n)) H
theorem nU(T:Tx K mg base):Ok P w base 1 T.mZ (Sj (λn=>decide (1<=n/\n<=999))):=by
 refine T.mZ.ok BD λH vs Q E hr h=>?_
 obtain⟨n,rfl,k⟩:=h;refine⟨_,(au (aH (kd hG hG aC (pv 0) aC))),?_⟩;have k:Q (.bl (decide (1<=n/\n<=999))) H:=k;refine⟨_,rfl,_,_,rfl,rfl,_,rfl,jb (λh1=>?_) (λh1=>?_)⟩
 ·refine⟨_,_,rfl,rfl,?_⟩
  have e:decide (1<=n/\n<=999)=decide (n<=999):=by simp[h1]
  rw[e]at k;exact k
 ·rw[aD (λq=>h1 q.1)]at k;exact k
theorem hJ(T:Tx K mg base):Ok P w base 1 T.hW (Sj (λn=>decide (1<=n/\n<=20))):=by
 refine T.hW.ok yc λH vs Q E hr h=>?_
 obtain⟨n,rfl,k⟩:=h;refine⟨_,(au (aH (kd hG hG aC (pv 0) aC))),?_⟩;have k:Q (.bl (decide (1<=n/\n<=20))) H:=k;refine⟨_,rfl,_,_,rfl,rfl,_,rfl,jb (λh1=>?_) (λh1=>?_)⟩
 ·refine⟨_,_,rfl,rfl,?_⟩
  have e:decide (1<=n/\n<=20)=decide (n<=20):=by simp[h1]
  rw[e]at k;exact k
 ·rw[aD (λq=>h1 q.1)]at k;exact k
end
theorem sX.same{K:c9}{H H':Hp}(e:aS H H'){as:List Addr}{ms:List (List Int)}(h:sX K H as ms):sX K H' as ms:=⟨h.1,λi a m h1 h2=>e.AQ (h.2 i a m h1 h2)⟩
theorem tj.lB{K:c9}{H:Hp}{as:List Addr}{bs:List Box}(h:tj H as bs):sX K H as (bs.map Vbptae.ints):=⟨by rw[ab];exact h.1,λi a m h1 h2=>by
 rw[aW]at h2;obtain⟨b,hb,rfl⟩:=bO.mp h2;exact c8.of (h.2 i a b h1 hb)⟩
theorem uw:∀{a b:List Nat},Vbptae.ints a=Vbptae.ints b->a=b
 | [],[],_=>rfl
 | [],_::_,h=>by cases h
 |_::_,[],h=>by cases h
 |x::xs,y::ys,h=>by
  have h:((x:Int)::Vbptae.ints xs)=((y:Int)::Vbptae.ints ys):=h;injection h with h1 h2
  rw[uw h2,vX.mp h1]
theorem yK{b:Box}{bs:List Box}:Vbptae.ints b∈bs.map Vbptae.ints↔b∈bs:=by
 constructor
 ·intro h
  obtain⟨c,hc,e⟩:=aV.mp h;rw[<-uw e];exact hc
 ·intro h;exact ff h
theorem og:∀{l:List Int},(∀x∈l,0<=x)->Vbptae.ints (l.map Int.toNat)=l
 | [],_=>rfl
 |x::l,h=>by
  show((x.toNat:Nat):Int)::Vbptae.ints (l.map Int.toNat)=x::l;rw[og λy hy=>h y (ao _ hy),du (h x ax)]
theorem mi{ns:List Int}{i:Nat}{x:V}(h:(ns.map V.int)[i]?=some x):∃n,ns[i]?=some n/\x=.int n:=by
 rw[aW]at h;obtain⟨n,h1,h2⟩:=bO.mp h;exact⟨n,h1,h2.symm⟩
theorem fW{as:List Addr}{i:Nat}{x:V}(h:(as.map V.ref)[i]?=some x):∃n,as[i]?=some n/\x=.ref n:=by
 rw[aW]at h;obtain⟨n,h1,h2⟩:=bO.mp h;exact⟨n,h1,h2.symm⟩
def kv(ks:List Nat):List V:=(Vbptae.ints ks).map V.int
section
variable{P:Program}{w:World}{K:c9}{mg:jB}{base:Heap}
def Oi(K:c9)(f:List Int->Bool):Sp:=λvs H Q _=>∃(a:Addr)(ns:List Int),vs=[.ref a]/\cG K H a (ns.map V.int)/\ns.length<=100/\∀H',aS H H'->Q (.bl (f ns)) H'
def jx(l:List Int):Bool:=decide (1<=l.length/\l.length<=6)&&l.all λx=>decide (1<=x/\x<=8)
def restOk(l:List Int):Bool:=decide (l.length<=6)&&l.all λx=>decide (0<=x/\x<=6)
theorem all_map{α:Type}{f:α->Bool}{l:List α}:(l.map f).all id=l.all f:=by rw[List.all_map];rfl
theorem any_map{α:Type}{f:α->Bool}{l:List α}:(l.map f).any id=l.any f:=by rw[List.any_map];rfl
theorem As(T:Tx K mg base):Ok P w base 1 T.sS (Oi K jx):=by
 have nd:=qZ.nd;refine T.sS.ok qZ λH vs Q E hr h=>?_
 obtain⟨a,ns,rfl,ha,hn,k⟩:=h;refine⟨_,(au (aH (pI (kd hG hG aC (bQ cK (by rfl) T.gz bH (av 0 ah)) aC) (nQ (bQ (vN rfl) (by rfl) T.Bq boot_all (ag (oK rfl nd (iq (pv 0)) (fI (N:=["row","leaves"]) (sc:=aL nI) (own:=[("leaves",1)]) (by decide +kernel)) (λ_ _ _ _ _=>(gl 1 nd)) (λ_ _ _ _ _=>jn) (λ_ _ _ _ _=>(kd hG hG aC (pv 1) aC))) ah)))))),?_⟩;refine⟨_,rfl,_,_,rfl,.inl ha,_,_,rfl,rfl,_,rfl,jb (λh1=>?_) (λh1=>?_)⟩
 ·rw[ab]at h1
  refine⟨_,_,rfl,rfl,_,rfl,jb (λh2=>?_) (λh2=>?_)⟩
  ·rw[ab]at h2
   refine⟨_,rfl,a,rfl,⟨_,ha⟩,λD hD=>Ny (L:=ns) hC hD (by omega) (λn=>.bl (decide (1<=n/\n<=8))) (λi H' hi s=>jR (s.seq ha) (by rw[ab];exact hi)) (λH' s=>by have q:=gr (s.seq ha);rw[ab]at q;exact q) (λi n x H1 H2 N1 hi s y kk=>?_) λH' s e=>?_⟩
   ·obtain⟨rfl,hx⟩:=iz (s.seq ha) y
    obtain⟨m,hm,rfl⟩:=mi hx;rw[hi]at hm;cases hm;refine⟨rfl,_,rfl,_,_,rfl,rfl,_,rfl,jb (λh3=>?_) (λh3=>?_)⟩
    ·refine⟨_,_,rfl,rfl,?_⟩
     have q:=kk _ (aS.refl _);rw[show decide (1<=n/\n<=8)=decide (n<=8) by simp[h3]]at q;exact q
    ·have q:=kk _ (aS.refl _)
     rw[aD (λq=>h3 q.1)]at q;exact q
   ·refine⟨D,ns.map λn=>decide (1<=n/\n<=8),rfl,cG.of (by rw[e,bC];rfl),?_⟩
    rw[all_map];have q:=k H' s;rw[show jx ns=ns.all λn=>decide (1<=n/\n<=8) by unfold jx;rw[aJ ⟨by omega,by omega⟩,k9]]at q;exact q
  ·rw[ab]at h2
   have q:=k H (aS.refl _);rw[show jx ns=false by unfold jx;rw[aD (by omega),d8]]at q;exact q
 ·rw[ab]at h1
  have q:=k H (aS.refl _);rw[show jx ns=false by unfold jx;rw[aD (by omega),d8]]at q;exact⟨_,rfl,iZ q⟩
theorem w8(T:Tx K mg base):Ok P w base 1 T.oo (Oi K restOk):=by
 have nd:=oF.nd;refine T.oo.ok oF λH vs Q E hr h=>?_
 obtain⟨a,ns,rfl,ha,hn,k⟩:=h;refine⟨_,(au (aH (pI (gg hG (bQ cK (by rfl) T.gz bH (av 0 ah)) aC (bK _)) (nQ (bQ (vN rfl) (by rfl) T.Bq boot_all (ag (oK rfl nd (iq (pv 0)) (fI (N:=["row","day"]) (sc:=aL lF) (own:=[("day",1)]) (by decide +kernel)) (λ_ _ _ _ _=>(gl 1 nd)) (λ_ _ _ _ _=>jn) (λ_ _ _ _ _=>(kd hG hG aC (pv 1) aC))) ah)))))),?_⟩;refine⟨_,rfl,_,_,rfl,.inl ha,_,_,rfl,rfl,_,rfl,jb (λh2=>?_) (λh2=>?_)⟩
 ·rw[ab]at h2
  refine⟨_,rfl,a,rfl,⟨_,ha⟩,λD hD=>Ny (L:=ns) hC hD (by omega) (λn=>.bl (decide (0<=n/\n<=6))) (λi H' hi s=>jR (s.seq ha) (by rw[ab];exact hi)) (λH' s=>by have q:=gr (s.seq ha);rw[ab]at q;exact q) (λi n x H1 H2 N1 hi s y kk=>?_) λH' s e=>?_⟩
  ·obtain⟨rfl,hx⟩:=iz (s.seq ha) y
   obtain⟨m,hm,rfl⟩:=mi hx;rw[hi]at hm;cases hm;refine⟨rfl,_,rfl,_,_,rfl,rfl,_,rfl,jb (λh3=>?_) (λh3=>?_)⟩
   ·refine⟨_,_,rfl,rfl,?_⟩
    have q:=kk _ (aS.refl _);rw[show decide (0<=n/\n<=6)=decide (n<=6) by simp[h3]]at q;exact q
   ·have q:=kk _ (aS.refl _)
    rw[aD (λq=>h3 q.1)]at q;exact q
  ·refine⟨D,ns.map λn=>decide (0<=n/\n<=6),rfl,cG.of (by rw[e,bC];rfl),?_⟩
   rw[all_map];have q:=k H' s;rw[show restOk ns=ns.all λn=>decide (0<=n/\n<=6) by unfold restOk;rw[aJ (by omega),k9]]at q;exact q
 ·rw[ab]at h2
  have q:=k H (aS.refl _);rw[show restOk ns=false by unfold restOk;rw[aD (by omega),d8]]at q;exact q
theorem M3{q k:Nat}(h1:1<=k)(h2:k<=6)(hq:q<=100):XH 0 ((q*k:Nat):Int) (k:Int) q:=by
 have hk:k=1\/k=2\/k=3\/k=4\/k=5\/k=6:=by omega
 rcases hk with rfl|rfl|rfl|rfl|rfl|rfl
 all_goals
  refine⟨by decide,by decide,?_,?_⟩
  ·unfold Builtin.Range.small Builtin.Range.rangeSize Builtin.Range.rangeFitsLong
   rw[az (by decide)];have UD:(q:Int)<=100:=by omega
   split<;>simp<;>omega
  ·unfold Builtin.Range.rangeSize
   rw[az (by decide)];split<;>omega
theorem EE{ns:List Int}{a b:Nat}(h:b<=ns.length):kR (ns.map V.int) (some (a:Int)) (some (b:Int))=((ns.drop a).take (b-a)).map V.int:=by
 unfold kR HT.E4;rw[ab];simp only[];rw[aw (by omega),aw (by omega),b9,b9,Nat.min_eq_left h,<-Fh,<-Fg];congr 1
 by_cases ha:a<=ns.length
 ·rw[Nat.min_eq_left ha]
 ·rw[Nat.min_eq_right (by omega),show b-ns.length=0 by omega,show b-a=0 by omega];simp
def zB(H:Hp)(as:List Addr)(ms:List (List Int)):Prop:=as.length=ms.length/\∀(i:Nat)(a:Addr)(m:List Int),as[i]?=some a->ms[i]?=some m->H a=some (.tup (m.map V.int))
theorem zB.lB{K:c9}{H:Hp}{as:List Addr}{ms:List (List Int)}(h:zB H as ms):sX K H as ms:=⟨h.1,λi a m h1 h2=>c8.of (h.2 i a m h1 h2)⟩
def HX(K:c9):Sp:=λvs H Q _=>∃(l r:Addr)(ks:List Nat)(ns:List Int),vs=[.ref l,.ref r]/\cG K H l (kv ks)/\cG K H r (ns.map V.int)/\1<=ks.length/\ks.length<=6/\ns.length<=100/\ns.length%ks.length=0/\
 ∀H' p as,aS H H'->H p=none->H' p=some (.lst (as.map V.ref))->zB H' as (Pb.cut ks.length (ns.length/ks.length) ns)->Q (.ref p) H'
theorem kf(T:Tx K mg base):Ok P w base 1 T.lK (HX K):=by
 have nd:=we.nd;refine T.lK.ok we λH vs Q E hr h=>?_
 obtain⟨l,r,ks,ns,rfl,hl,Th,k1,k2,n1,hm,k⟩:=h;refine⟨_,(af (sl 2 nd (bQ cK (by rfl) T.gz bH (av 0 ah)))
   (au (aH (oK rfl nd (Ik rfl T.HA (ag aC (ag (bQ cK (by rfl) T.gz bH (av 1 ah)) (av 2 ah)))) (fI (N:=["leaves","row","width","place"]) (sc:=aL sj) (own:=[("place",3)]) (by decide +kernel)) (λ_ _ _ _ _=>(gl 3 nd)) (λ_ _ _ _ _=>jn) (λ_ _ _ _ _=>(cu (zp (K:=K) rfl) (by rfl) T.gT boot_tuple (ag (iP (Ka (K:=K) rfl) (pv 1) (gQ (pv 3)) (gQ (dr jr (pv 3) (pv 2)))) ah))))))),?_⟩
 have TV:(kv ks).length=ks.length:=by unfold kv Vbptae.ints;rw[ab,ab]
 have eq:ns.length=ns.length/ks.length*ks.length:=Pb.mm hm;have hq:ns.length/ks.length<=100:=bf (Nat.div_le_self _ _) n1;refine⟨_,rfl,_,_,rfl,.inl hl,?_⟩;refine⟨_,rfl,_,_,rfl,.inl Th,_,rfl,0,(ns.length:Int),(ks.length:Int),ns.length/ks.length,(by rw[ab,TV]),(by have q:=M3 k1 k2 hq;rw[<-eq]at q;exact q),?_⟩;intro D hD;refine SU (n:=ns.length/ks.length) hC hD (by omega) (λi acc H'=>∃as:List Addr,acc=as.map V.ref/\zB H' as ((Pb.cut ks.length (ns.length/ks.length) ns).take i)) ?_ ⟨[],rfl,rfl,λi a m h=>by simp at h⟩ ?_ (λi H' hi _=>hi) (λH' _=>ay _) ?_ λH' acc s e⟨as,e1,e2⟩=>k H' D as s hD (by rw[e,e1]) (by rw[zJ (by rw[Pb.fG];exact ay _)]at e2;exact e2)
 ·rintro i acc H1 H2 kt ⟨as,e1,e2,e3⟩
  exact⟨as,e1,e2,λj a m h1 h2=>kt _ _ (e3 j a m h1 h2)⟩
 ·rintro i acc H1 hi ⟨as,e1,e2,_⟩
  rw[e1,ab,e2,bW];exact Oa _ _
 ·rintro i x H1 H2 acc N1 hi s ⟨as,e1,e2,e3⟩ ⟨rfl,rfl⟩ h1
  have Cy:(i+1)*ks.length<=ns.length:=by
   have:(i+1)*ks.length<=ns.length/ks.length*ks.length:=Nat.mul_le_mul_right _ hi;omega
  refine⟨rfl,_,rfl,_,rfl,_,rfl,_,rfl,_,rfl,_,_,rfl,rfl,_,rfl,r,_,rfl,s.seq Th,λp hp=>⟨p,_,rfl,.inl ⟨cG.of ai,λt ht=>h1 _ _ ((aS.new hp).trans (aS.new ht)) ⟨as++ [t],by rw[aZ,e1];rfl,?_⟩⟩⟩⟩
  have ec:kR (ns.map V.int) (some (0+(i:Int)*(ks.length:Int))) (some (0+(i:Int)*(ks.length:Int)+((kv ks).length:Int)))=((ns.drop (i*ks.length)).take ks.length).map V.int:=by
   have q:=EE (ns:=ns) (a:=i*ks.length) (b:=(i+1)*ks.length) Cy;rw[show(i+1)*ks.length-i*ks.length=ks.length by rw[gX];omega]at q;rw[<-q,TV];congr 2<;>simp[gX]
  have ct:(Pb.cut ks.length (ns.length/ks.length) ns)[i]?=some ((ns.drop (i*ks.length)).take ks.length):=Pb.Hx _ _ _ i hi
  have kt:Kt H2 (upd (upd H2 p (HO.lst (kR (ns.map V.int) (some (0+(i:Int)*(ks.length:Int))) (some (0+(i:Int)*(ks.length:Int)+((kv ks).length:Int)))))) t (.tup (((ns.drop (i*ks.length)).take ks.length).map V.int))):=((aS.new hp).trans (aS.new ht)).kp.kt
  rw[take_snoc ct];refine⟨by rw[aA,aA,e2];rfl,λj a m h2 h3=>?_⟩;show upd _ t (.tup (kR (ns.map V.int) (some (0+(i:Int)*(ks.length:Int))) (some (0+(i:Int)*(ks.length:Int)+((kv ks).length:Int))))) a=_
  by_cases hj:j<as.length
  ·rw[bq hj]at h2
   rw[bq (by rw[<-e2];exact hj)]at h3;rw[ec];have q:=kt _ _ (e3 j a m h2 h3);rw[ec]at q;exact q
  ·have RG:j=as.length:=by
    have:=(aN.mp h2).1
    simp at this;omega
   subst RG;rw[bD (ay _),gY]at h2;rw[e2,bD (ay _),gY]at h3;cases h2;cases h3;rw[ai,ec]
theorem pW:∀(ns:List Int)(ks:List Nat),((ns.zip ks).map λp=>decide (1<=p.1)&&decide (p.1<2^p.2)).all id=Pb.iA ns ks
 | [],ks=>by cases ks<;>rfl
 |_::_,[]=>rfl
 |x::xs,k::ks=>by
  rw[dH,aT,jg,pW xs ks];rfl
def GR(K:c9)(Sq:c9->Hp->Addr->List V->Prop):Sp:=λvs H Q _=>∃(l b:Addr)(ks:List Nat)(ns:List Int),vs=[.ref l,.ref b]/\cG K H l (kv ks)/\Sq K H b (ns.map V.int)/\(∀k∈ks,k<=8)/\ns.length<=100/\∀H',aS H H'->Q (.bl (Pb.iA ns ks)) H'
theorem Cr{ks:List Nat}{i:Nat}{x:V}(h:(kv ks)[i]?=some x):∃n,ks[i]?=some n/\x=.int n:=by
 unfold kv Vbptae.ints at h;rw[bC,aW]at h;obtain⟨n,h1,h2⟩:=bO.mp h;exact⟨n,h1,h2.symm⟩
theorem n9(ks:List Nat):(kv ks).length=ks.length:=by unfold kv Vbptae.ints;rw[ab,ab]
theorem DM(k:Nat):(1:Int)*2^((k:Int).toNat)=2^k:=by rw[b9,Int.one_mul]
theorem wZ(T:Tx K mg base):Ok P w base 1 T.i8 (GR K c8):=by
 have nd:=jk.nd;refine T.i8.ok jk λH vs Q E hr h=>?_
 obtain⟨l,b,ks,ns,rfl,hl,hb,h8,hn,k⟩:=h;refine⟨_,(au (aH (bQ (vN rfl) (by rfl) T.Bq boot_all (ag (oK rfl nd (Nd rfl T.OV (av 1 (av 0 ah))) (fI (N:=["leaves","box","number","count"]) (sc:=aL j0) (own:=[("number",2),("count",3)]) (by decide +kernel)) (λ_ _ _ _ _=>(G0 (K:=K) (n:=2) rfl rfl (mT (gl 2 nd) (mT (gl 3 nd) BQ)))) (λ_ _ _ _ _=>jn) (λ_ _ _ _ _=>(kd hG A3 aC (pv 2) (dr KC aC (pv 3))))) ah)))),?_⟩;refine⟨_,rfl,_,rfl,b,l,_,_,rfl,hb,hl,λD hD=>Ny (L:=ns.zip ks) hC hD (by rw[lu];omega) (λp=>.bl (decide (1<=p.1)&&decide (p.1<2^p.2))) (λi H' hi s=>?_) (λH' s=>?_) (λi p x H1 H2 N1 hi s y kk=>?_) λH' s e=>?_⟩
 ·rw[lu]at hi
  have i1:i<(ns.map V.int).length:=by rw[ab];omega
  have i2:i<(kv ks).length:=by rw[n9];omega
  exact⟨_,_,_,_,s.AQ hb,s.seq hl,ae i1,ae i2⟩
 ·refine⟨_,_,s.AQ hb,s.seq hl,?_⟩
  rw[lu,ab,n9];omega
 ·obtain⟨t,x1,y1,rfl,ht,rfl,hx,hy⟩:=y
  have hx:=hx _ (s.AQ hb);have hy:=hy _ (s.seq hl);obtain⟨n,QO,rfl⟩:=mi hx;obtain⟨c,TC,rfl⟩:=Cr hy;have e:p=(n,c):=by
   rw[uT]at hi;rw[QO,TC]at hi;rcases p with⟨p1,p2⟩
   simp at hi;rw[hi.1,hi.2]
  subst e;have hc8:c<=8:=h8 c (aY TC);refine⟨t,_,rfl,c8.of ai,rfl,_,_,rfl,_,_,rfl,rfl,rfl,_,rfl,_,_,rfl,rfl,_,rfl,jb (λh1=>?_) (λh1=>?_)⟩
  ·refine⟨_,rfl,_,_,rfl,rfl,⟨by omega,by omega,by decide⟩,_,_,rfl,rfl,?_⟩
   have q:=kk _ (aS.new (o:=.tup [V.int n,V.int c]) ht);rw[show(decide (1<=n)&&decide (n<2^c))=decide (n<1*2^((c:Int).toNat)) by rw[aJ h1,k9,DM]]at q
   exact q
  ·have q:=kk _ (aS.new (o:=.tup [V.int n,V.int c]) ht)
   rw[show(decide (1<=n)&&decide (n<2^c))=false by rw[aD h1,d8]]at q;exact q
 ·refine⟨D,(ns.zip ks).map λp=>decide (1<=p.1)&&decide (p.1<2^p.2),rfl,cG.of (by rw[e,bC];rfl),?_⟩
  rw[pW];exact k H' s
theorem w4(T:Tx K mg base):Ok P w base 1 T.i8 (GR K cG):=by
 have nd:=jk.nd;refine T.i8.ok jk λH vs Q E hr h=>?_
 obtain⟨l,b,ks,ns,rfl,hl,hb,h8,hn,k⟩:=h;refine⟨_,(au (aH (bQ (vN rfl) (by rfl) T.Bq boot_all (ag (oK rfl nd (P0 rfl T.OV (av 1 (av 0 ah))) (fI (N:=["leaves","box","number","count"]) (sc:=aL j0) (own:=[("number",2),("count",3)]) (by decide +kernel)) (λ_ _ _ _ _=>(G0 (K:=K) (n:=2) rfl rfl (mT (gl 2 nd) (mT (gl 3 nd) BQ)))) (λ_ _ _ _ _=>jn) (λ_ _ _ _ _=>(kd hG A3 aC (pv 2) (dr KC aC (pv 3))))) ah)))),?_⟩;refine⟨_,rfl,_,rfl,b,l,_,_,rfl,hb,hl,λD hD=>Ny (L:=ns.zip ks) hC hD (by rw[lu];omega) (λp=>.bl (decide (1<=p.1)&&decide (p.1<2^p.2))) (λi H' hi s=>?_) (λH' s=>?_) (λi p x H1 H2 N1 hi s y kk=>?_) λH' s e=>?_⟩
 ·rw[lu]at hi
  have i1:i<(ns.map V.int).length:=by rw[ab];omega
  have i2:i<(kv ks).length:=by rw[n9];omega
  exact⟨_,_,_,_,s.seq hb,s.seq hl,ae i1,ae i2⟩
 ·refine⟨_,_,s.seq hb,s.seq hl,?_⟩
  rw[lu,ab,n9];omega
 ·obtain⟨t,x1,y1,rfl,ht,rfl,hx,hy⟩:=y
  have hx:=hx _ (s.seq hb);have hy:=hy _ (s.seq hl);obtain⟨n,QO,rfl⟩:=mi hx;obtain⟨c,TC,rfl⟩:=Cr hy;have e:p=(n,c):=by
   rw[uT]at hi;rw[QO,TC]at hi;rcases p with⟨p1,p2⟩
   simp at hi;rw[hi.1,hi.2]
  subst e;have hc8:c<=8:=h8 c (aY TC);refine⟨t,_,rfl,c8.of ai,rfl,_,_,rfl,_,_,rfl,rfl,rfl,_,rfl,_,_,rfl,rfl,_,rfl,jb (λh1=>?_) (λh1=>?_)⟩
  ·refine⟨_,rfl,_,_,rfl,rfl,⟨by omega,by omega,by decide⟩,_,_,rfl,rfl,?_⟩
   have q:=kk _ (aS.new (o:=.tup [V.int n,V.int c]) ht);rw[show(decide (1<=n)&&decide (n<2^c))=decide (n<1*2^((c:Int).toNat)) by rw[aJ h1,k9,DM]]at q
   exact q
  ·have q:=kk _ (aS.new (o:=.tup [V.int n,V.int c]) ht)
   rw[show(decide (1<=n)&&decide (n<2^c))=false by rw[aD h1,d8]]at q;exact q
 ·refine⟨D,(ns.zip ks).map λp=>decide (1<=p.1)&&decide (p.1<2^p.2),rfl,cG.of (by rw[e,bC];rfl),?_⟩
  rw[pW];exact k H' s
def MI(K:c9):Sp:=λvs H Q _=>∃(l b:Addr)(ks:List Nat)(ns:List Int),vs=[.ref l,.ref b]/\cG K H l (kv ks)/\cG K H b (ns.map V.int)/\(∀k∈ks,k<=8)/\ns.length<=100/\∀H',aS H H'->Q (.bl (decide (Pb.fK ks ns))) H'
theorem mV(T:Tx K mg base):Ok P w base 2 T.sF (MI K):=by
 refine T.sF.ok Ia λH vs Q E hr h=>?_
 obtain⟨l,b,ks,ns,rfl,hl,hb,h8,hn,k⟩:=h;refine⟨_,(au (aH (pI (gg eA (bQ cK (by rfl) T.gz bH (av 1 ah)) (bQ cK (by rfl) T.gz bH (av 0 ah)) (bK _)) (nQ (pc T.i8 (w4 T) hr (av 0 (av 1 ah))))))),?_⟩;refine⟨_,rfl,_,_,rfl,.inl hb,_,rfl,_,_,rfl,.inl hl,rfl,_,rfl,kg (λh1=>?_) (λh1=>?_)⟩
 ·rw[ab,n9]at h1
  refine⟨_,rfl,_,rfl,l,b,ks,ns,rfl,hl,hb,h8,hn,λH' s=>?_⟩;have q:=k H' s;rw[show decide (Pb.fK ks ns)=Pb.iA ns ks by
   have h2:ns.length=ks.length:=(by omega);rw[bz,bj];exact⟨λg=>g.2,λg=>⟨h2,g⟩⟩]at q
  exact q
 ·rw[ab,n9]at h1
  have q:=k H (aS.refl _);rw[show decide (Pb.fK ks ns)=false from aD (λq=>h1 (by rw[q.1]))]at q;exact q
def Fz(K:c9):Sp:=λvs H Q _=>∃(l r:Addr)(ks:List Nat)(ns:List Int)(lo:Nat),vs=[.ref l,.ref r,.int lo]/\cG K H l (kv ks)/\cG K H r (ns.map V.int)/\1<=ks.length/\ks.length<=6/\(∀k∈ks,k<=8)/\ns.length<=100/\
 ∀H',aS H H'->Q (.bl (decide (Pb.cT ks lo ns))) H'
theorem kQ(T:Tx K mg base):Ok P w base 2 T.lr (Fz K):=by
 have nd:=tR.nd;refine T.lr.ok tR λH vs Q E hr h=>?_
 obtain⟨l,r,ks,ns,lo,rfl,hl,Th,k1,k2,h8,hn,k⟩:=h;refine⟨_,(af (bt (bB DS (dr vh (bQ cK (by rfl) T.gz bH (av 1 ah)) (bQ cK (by rfl) T.gz bH (av 0 ah))) aC (bK _)) (au (aH jo)) aQ)
   (af (sl 3 nd (pc T.lK (kf T) hr (av 0 (av 1 ah))))
   (af (bt (cZ (uc hG hG (pv 2) (bQ cK (by rfl) T.gz bH (av 3 ah)) (bX rfl T.CM))) (au (aH jo)) aQ)
   (af (bt (cZ (cR (bQ (vN rfl) (by rfl) T.Bq boot_all (ag (oK rfl nd (iq (pv 3)) (fI (N:=["leaves","row","least","boxes","box"]) (sc:=aL pA) (own:=[("box",4)]) (by decide +kernel)) (λ_ _ _ _ _=>(gl 4 nd)) (λ_ _ _ _ _=>jn) (λ_ _ _ _ _=>(pc T.i8 (wZ T) hr (av 0 (av 4 ah))))) ah)))) (au (aH jo)) aQ)
   (au (aH (gg eA (bQ Jo (by rfl) T.gz bH (ag (cu (Bk rfl hr.units) (by rfl) T.LY boot_set (av 3 ah)) ah)) (bQ cK (by rfl) T.gz bH (av 3 ah)) (bK _)))))))),?_⟩
 have no:¬Pb.cT ks lo ns->∀H',aS H H'->Q (.bl false) H':=λh H' s=>by have q:=k H' s;rw[aD h]at q;exact q
 refine⟨_,rfl,_,_,rfl,.inl Th,_,rfl,_,_,rfl,.inl hl,_,_,rfl,rfl,(by show(0:Int)<_;rw[n9];omega),rfl,_,rfl,Ek (λh1=>?_) (λh1=>?_)⟩
 ·rw[ab,n9]at h1
  exact no (λq=>h1 (by have:=q.1;omega)) _ (aS.refl _)
 rw[ab,n9]at h1;have h1:ns.length%ks.length=0:=by omega
 refine⟨_,rfl,_,rfl,l,r,ks,ns,rfl,hl,Th,k1,k2,hn,h1,λH1 p as s1 hp e1 t1=>?_⟩;have lp:(as.map V.ref).length=ns.length/ks.length:=by rw[ab,t1.1,Pb.fG]
 refine⟨_,rfl,_,rfl,_,_,rfl,.inl (cG.of e1),_,_,rfl,rfl,_,rfl,jb (λh2=>?_) (λh2=>?_)⟩
 ·rw[lp]at h2
  refine⟨_,_,rfl,rfl,_,rfl,gS (λh3=>?_) (λh3=>?_)⟩
  ·rw[lp]at h3
   exact no (λq=>h3 (by have:=q.2.2.1;omega)) _ s1
  rw[lp]at h3;refine⟨_,rfl,p,rfl,⟨_,cG.of e1⟩,λD hD=>Ny (L:=Pb.cut ks.length (ns.length/ks.length) ns) hC hD (by rw[Pb.fG];omega) (λm=>.bl (Pb.iA m ks)) (λi H' hi s=>jR (s.seq (cG.of e1)) (by rw[lp];rw[Pb.fG]at hi;exact hi)) (λH' s=>by have q:=gr (s.seq (cG.of (K:=K) e1));rw[lp]at q;rw[Pb.fG];exact q) (λi m x H2 H3 N1 hi s y kk=>?_) λH2 s e=>?_⟩
  ·obtain⟨rfl,hx⟩:=iz (s.seq (cG.of e1)) y
   obtain⟨a,ha,rfl⟩:=fW hx;have hm:=aY hi;refine⟨rfl,_,rfl,_,rfl,l,a,ks,m,rfl,s.seq (s1.seq hl),c8.of (s _ _ (t1.2 i a m ha hi)),h8,(by rw[Pb.uE _ ns (Pb.mm h1) m hm];omega),λH4 s4=>kk H4 s4⟩
  ·refine⟨D,(Pb.cut ks.length (ns.length/ks.length) ns).map λm=>Pb.iA m ks,rfl,cG.of (by rw[e,bC];rfl),_,rfl,?_⟩
   rw[all_map];refine kK (λh4=>?_) (λh4=>?_)
   ·refine no (λq=>?_) _ (s1.trans s)
    rw[bE.mpr q.2.2.2.1]at h4;cases h4
   ·refine⟨_,rfl,p,as,Pb.cut ks.length (ns.length/ks.length) ns,rfl,s.seq (cG.of e1),(t1.lB).same s,(by rw[Pb.fG];omega),λz o Ob ks' hz So Va _ Mf=>⟨z,o,Ob,rfl,ai,So,_,rfl,_,_,rfl,.inl ((aS.new hz).seq (s.seq (cG.of e1))),rfl,?_⟩⟩
    have q:=k _ ((s1.trans s).trans (aS.new (o:=oO z o) hz))
    rw[show decide (Pb.cT ks lo ns)=decide (V.int ((Ob.length:Nat):Int)=V.int (((as.map V.ref).length:Nat):Int)) by
     rw[xa,lp,Va.2.2.2];rw[Pb.fG]at Mf;rw[bz,bj,bj];unfold Pb.cT;constructor
     ·intro g;rw[Mf.mpr g.2.2.2.2]
     ·intro g;exact⟨h1,by omega,by omega,λb hb=>bE.mp h4 b hb,Mf.mp (by omega)⟩]at q
    exact q
 ·rw[lp]at h2
  exact⟨_,rfl,gU (no (λq=>h2 (by have:=q.2.1;omega)) _ s1)⟩
def MK(T:Tx K mg base):Sp:=λvs H Q _=>∃(a nd l:Addr)(p:Paper)(as:List Addr)(bs:List Box),vs=[.ref a,.ref l]/\dZ T.Paper.C H a nd p/\cG K H l (as.map V.ref)/\sX K H as (bs.map Vbptae.ints)/\bs.length<=100/\∀H',aS H H'->Q (.bl (bs.all λb=>p.boxes.contains b)) H'
theorem jM(T:Tx K mg base):Ok P w base 1 T.iR (MK T):=by
 have nd:=mO.nd;refine T.iR.ok mO λH vs Q E hr h=>?_
 obtain⟨a,uj,l,p,as,bs,rfl,hp,hl,ht,hn,k⟩:=h;have hu:=ft hr;refine⟨_,(au (aH (bQ (vN rfl) (by rfl) T.Bq boot_all (ag (oK rfl nd (iq (pv 1)) (fI (N:=["paper","boxes","box"]) (sc:=aL kD) (own:=[("box",2)]) (by decide +kernel)) (λ_ _ _ _ _=>(gl 2 nd)) (λ_ _ _ _ _=>jn) (λ_ _ _ _ _=>(gg (G4 (K:=K) rfl hu) (pv 2) (gf (K:=K) rfl (pv 0) rfl) (by with_unfolding_all rfl)))) ah)))),?_⟩;obtain⟨dx,dt,bl,nm,wd,pu,R⟩:=hp;obtain⟨cs,nt,vF⟩:=R.boxes;have la:(as.map V.ref).length=bs.length:=by rw[ab,ht.1,ab]
 refine⟨_,rfl,l,rfl,⟨_,hl⟩,λD hD=>Ny (L:=bs) hC hD (by omega) (λb=>.bl (p.boxes.contains b)) (λi H' hi s=>jR (s.seq hl) (by rw[la];exact hi)) (λH' s=>by have q:=gr (s.seq hl);rw[la]at q;exact q) (λi b x H2 H3 N1 hi s y kk=>?_) λH2 s e=>?_⟩
 ·obtain⟨rfl,hx⟩:=iz (s.seq hl) y
  obtain⟨c,hc,rfl⟩:=fW hx;refine⟨rfl,_,rfl,_,rfl,_,_,_,_,_,rfl,s _ _ R.ins,T.Paper.cl,T.cC,fS,bl,c,cs,Vbptae.ints b,p.boxes.map Vbptae.ints,rfl,rfl,cG.of (s _ _ nt),s.AQ (ht.2 i c _ hc (by rw[aW,hi];rfl)),(vF.lB).same s,?_⟩
  have q:=kk _ (aS.refl _);rw[show p.boxes.contains b=decide (Vbptae.ints b∈p.boxes.map Vbptae.ints) by rw[bz,bj,yK];simp]at q;exact q
 ·refine⟨D,bs.map λb=>p.boxes.contains b,rfl,cG.of (by rw[e,bC];rfl),?_⟩
  rw[all_map];exact k H2 s
end
end Pr
namespace Pr
open PySem PySem.Spec PyProof.Rows L2 Vbptae PbP
theorem eY{a b:Nat}(ha:VN a)(hb:VN b):HT.lexLt (Vbptae.shown a) (Vbptae.shown b)=decide (a<b):=by
 obtain⟨y,m,d,v,rfl⟩:=ha;obtain⟨y',m',d',v',rfl⟩:=hb;unfold Vbptae.shown;rw[v.dateOf,v'.dateOf];simp only[HT.sE,HT.rF];have q:=v.lt_iff v';unfold Pb.RS at q
 by_cases h1:(y:Int)=y'
 ·rw[az h1]
  by_cases h2:(m:Int)=m'
  ·rw[az h2]
   by_cases h3:(d:Int)=d'
   ·rw[az h3]
    exact(aD λz=>by have:=q.mpr z;omega).symm
   ·rw[aw h3]
    by_cases h4:(d:Int)<d'
    ·rw[aJ h4];exact(aJ (q.mp (by omega))).symm
    ·rw[aD h4];exact(aD λz=>by have:=q.mpr z;omega).symm
  ·rw[aw h2]
   by_cases h4:(m:Int)<m'
   ·rw[aJ h4];exact(aJ (q.mp (by omega))).symm
   ·rw[aD h4];exact(aD λz=>by have:=q.mpr z;omega).symm
 ·rw[aw h1]
  by_cases h4:(y:Int)<y'
  ·rw[aJ h4];exact(aJ (q.mp (by omega))).symm
  ·rw[aD h4];exact(aD λz=>by have:=q.mpr z;omega).symm
theorem mM{a b:Nat}(ha:VN a)(hb:VN b)(e:Vbptae.shown a=Vbptae.shown b):a=b:=by
 obtain⟨y,m,d,v,rfl⟩:=ha;obtain⟨y',m',d',v',rfl⟩:=hb;unfold Vbptae.shown at e;rw[v.dateOf,v'.dateOf]at e;simp at e;obtain⟨e1,e2,e3⟩:=e;rw[vX.mp e1,vX.mp e2,vX.mp e3]
theorem wI:∀{a b:List Int},a.map (Sum.inl:Int->Key)=b.map Sum.inl->a=b
 | [],[],_=>rfl
 | [],_::_,h=>by cases h
 |_::_,[],h=>by cases h
 |x::xs,y::ys,h=>by
  rw[aT,aT]at h;injection h with h1 h2
  injection h1 with h1
  rw[h1,wI h2]
theorem p9{a b:Nat}(ha:VN a)(hb:VN b)(e:dk a=dk b):a=b:=mM ha hb (wI e)
theorem kM{α κ:Type} [DecidableEq κ]{f:α->κ}{g:α->V}:∀{l:List α}{a:α},a∈l->(∀x∈l,f x=f a->x=a)->fB (l.map λx=>(f x,g x)) (f a)=some (g a)
 |x::l,a,h,inj=>by
  rw[aT]
  by_cases e:f x=f a
  ·rw[tD e,inj x ax e]
  ·rw[oZ e]
   refine kM ((aB.mp h).resolve_left λq=>e (by rw[q])) λy hy=>inj y (ao _ hy)
theorem ig{α κ:Type} [DecidableEq κ]{f:α->κ}{g:α->V}{k:κ}:∀{l:List α},(∀x∈l,f x≠k)->fB (l.map λx=>(f x,g x)) k=none
 | [],_=>rfl
 |x::l,h=>by
  rw[aT,oZ (h x ax)];exact ig λy hy=>h y (ao _ hy)
structure Ad where
 b:Addr
 dx:Addr
 L:Addr
 R:Addr
 Cd:Addr
 P:Addr
 D:Addr
 Li:Addr
 Fi:Addr
 pa:Nat->Addr
 nd:Nat->Addr
 da:Nat->Addr
def kJ(z:Ad)(L:List Paper):List (Key×V):=L.map λp=>((Sum.inl (p.num:Int):Key),V.ref (z.pa p.num))
def rK(z:Ad)(M:List Deed):List (Key×V):=M.map λd=>((Sum.inl (d.num:Int):Key),V.ref (z.da d.num))
def rR(s:State)(a:Addr)(H:Hp):Prop:=∃lm:List (Nat×Addr),H a=some (.dT (lm.map λe=>(dk e.1,V.ref e.2)))/\(lm.map (·.1)).Nodup/\∀e∈lm,(∃p∈s.papers,p.day=e.1)/\H e.2=some (.tup (dv (moved s 2000 (yearLater e.1))))
def qk(K:c9)(s:State)(a:Addr)(H:Hp):Prop:=∃xs:List NE,zO K H a xs/\∀x∈xs,∃p∈s.papers,∃b∈p.boxes,x.1=((p.num:Int),Vbptae.ints b)/\x.2.2=isFirst s p b
def lS:Str:=(("deeds_until":Str)++ ".<locals>.")++ "<lambda>"
def iC(lp:Pos)(a fi:Addr)(H:Hp):Prop:=H a=some (.tI #[])\/∃c,H a=some (.tI #[rawInt lp.line,rawInt lp.col,.ref c])/\H c=some (.ext λh=>h.CodeRec (.ref c) lS)/\c≠fi
def gq:Pos:=match(iW j1).getD 1 (.Pass ⟨0,0,0,0⟩)with
 | .Return (some (.Call _ _ kws _)) _=>match kws with
  | [kw]=>match kw.value with
   | .Lambda _ _ _ p=>p
   |_=>⟨0,0,0,0⟩
  |_=>⟨0,0,0,0⟩
 |_=>⟨0,0,0,0⟩
structure BX{K:c9}{mg:jB}{base:Heap}(T:Tx K mg base)(z:Ad)(s:State)(L:List Paper)(M:List Deed)(H:Hp):Prop where
 wf:Pb.Wf s
 i6:L.Perm s.papers
 par:Pb.CW L
 iB:M.Perm s.deeds
 ins:H z.b=some (.ins T.bM.C z.dx (bF (.ref z.L) (.ref z.R) (.ref z.Cd) (.ref z.P) (.ref z.D) (.ref z.Li) (.ref z.Fi)))
 fq:H z.L=some (.lst (kv s.sizes))
 rest:∃rs:List Int,H z.R=some (.lst (rs.map V.int))/\rs.length<=6/\∀n:Nat,(n:Int)∈rs↔n∈s.rest
 closed:∃cs:List Nat,H z.Cd=some (.dT (cs.map λn=>(dk n,V.bl true)))/\cs.Perm s.closed
 papers:Rd H z.P (.dK (kJ z L))
 deeds:Rd H z.D (.dK (rK z M))
 paper:∀p∈L,dZ T.Paper.C H (z.pa p.num) (z.nd p.num) p
 uD:∀d∈M,vU T.Deed.C H (z.da d.num) d
 lH:rR s z.Li H
 jT:qk K s z.Fi H
 tab:iC gq T.oW z.Fi H
 sep:z.Cd≠z.Li
structure QX{K:c9}{mg:jB}{base:Heap}(T:Tx K mg base)(z:Ad)(s:State)(L:List Paper)(M:List Deed)(H:Hp):Prop extends BX T z s L M H where
 fP:∃o,H z.P=some (.iV o (.dK (kJ z L)))
 fD:∃o,H z.D=some (.iV o (.dK (rK z M)))
section
variable{K:c9}{mg:jB}{base:Heap}{T:Tx K mg base}{z:Ad}{s:State}{L:List Paper}{M:List Deed}{H H':Hp}
theorem rR.same{a:Addr}(e:aS H H')(h:rR s a H):rR s a H':=let⟨lm,h1,h2,h3⟩:=h;⟨lm,e _ _ h1,h2,λx hx=>⟨(h3 x hx).1,e _ _ (h3 x hx).2⟩⟩
theorem qk.same{a:Addr}(e:aS H H')(h:qk K s a H):qk K s a H':=let⟨xs,h1,h2⟩:=h;⟨xs,h1.same e,h2⟩
theorem iC.same{lp:Pos}{a fi:Addr}(e:aS H H')(h:iC lp a fi H):iC lp a fi H':=by
 rcases h with h|⟨c,h1,h2,h3⟩
 ·exact .inl (e _ _ h)
 ·exact .inr ⟨c,e _ _ h1,e _ _ h2,h3⟩
theorem GU{a:Addr}{u:HO}(e:aS H H')(h:Rd H a u):Rd H' a u:=by
 rcases h with h|⟨o,h⟩
 ·exact .inl (e _ _ h)
 ·exact .inr ⟨o,e _ _ h⟩
theorem Ot{a:Addr}{bJ:List (Key×V)}(e:Kp H H')(h:Rd H a (.dK bJ)):Rd H' a (.dK bJ):=by
 rcases h with h|⟨o,h⟩
 ·exact .inl (e _ _ h rfl)
 ·exact .inr ⟨o,e _ _ h rfl⟩
theorem BX.same(e:aS H H')(B:BX T z s L M H):BX T z s L M H' where
 wf:=B.wf
 i6:=B.i6
 par:=B.par
 iB:=B.iB
 ins:=e _ _ B.ins
 fq:=e _ _ B.fq
 rest:=let⟨rs,h1,h2⟩:=B.rest;⟨rs,e _ _ h1,h2⟩
 closed:=let⟨cs,h1,h2⟩:=B.closed;⟨cs,e _ _ h1,h2⟩
 papers:=GU e B.papers
 deeds:=GU e B.deeds
 paper:=λp hp=>(B.paper p hp).kp e.kp
 uD:=λp hp=>(B.uD p hp).kp e.kp
 lH:=B.lH.same e
 jT:=B.jT.same e
 tab:=B.tab.same e
 sep:=B.sep
theorem QX.same(e:aS H H')(B:QX T z s L M H):QX T z s L M H':=⟨B.toBX.same e,let⟨o,h⟩:=B.fP;⟨o,e _ _ h⟩,let⟨o,h⟩:=B.fD;⟨o,e _ _ h⟩⟩
theorem QX.kp(B:QX T z s L M H)(e:Kp H H')(hc:∃cs:List Nat,H' z.Cd=some (.dT (cs.map λn=>(dk n,V.bl true)))/\cs.Perm s.closed)(hl:rR s z.Li H')(hf:qk K s z.Fi H')(ht:iC gq T.oW z.Fi H'):QX T z s L M H' where
 wf:=B.wf
 i6:=B.i6
 par:=B.par
 iB:=B.iB
 ins:=e _ _ B.ins rfl
 fq:=e _ _ B.fq rfl
 rest:=let⟨rs,h1,h2⟩:=B.rest;⟨rs,e _ _ h1 rfl,h2⟩
 closed:=hc
 papers:=Ot e B.papers
 deeds:=Ot e B.deeds
 paper:=λp hp=>(B.paper p hp).kp e
 uD:=λp hp=>(B.uD p hp).kp e
 lH:=hl
 jT:=hf
 tab:=ht
 sep:=B.sep
 fP:=let⟨o,h⟩:=B.fP;⟨o,e _ _ h rfl⟩
 fD:=let⟨o,h⟩:=B.fD;⟨o,e _ _ h rfl⟩
def Ko(x:Addr)(H H':Hp):Prop:=∀b o,H b=some o->b≠x->H' b=some o
theorem Ko.upd{x:Addr}{o:HO}:Ko x H (upd H x o):=λb u e n=>by rw[aG n];exact e
theorem MS{x c:Addr}{u o:HO}(hx:H x=some u)(su:soft u=true)(hc:H c=some o)(so:soft o=false):c≠x:=λe=>by
 subst e;rw[hx]at hc;cases hc;rw[su]at so;cases so
theorem Ko.kp{x:Addr}{u:HO}(k:Ko x H H')(hx:H x=some u)(su:soft u=true):Kp H H':=λb o e so=>k b o e (MS hx su e so)
theorem rR.ko{x a:Addr}{u:HO}(k:Ko x H H')(hx:H x=some u)(su:soft u=true)(n:a≠x)(h:rR s a H):rR s a H':=let⟨lm,h1,h2,h3⟩:=h;⟨lm,k _ _ h1 n,h2,λe he=>⟨(h3 e he).1,k.kp hx su _ _ (h3 e he).2 rfl⟩⟩
theorem qk.ko{x a:Addr}{u:HO}(k:Ko x H H')(hx:H x=some u)(su:soft u=true)(n:a≠x)(h:qk K s a H):qk K s a H':=by
 obtain⟨xs,⟨o,es,ep,g1,g2,g3,g4,g5,g6,g7,g8⟩,h2⟩:=h;exact⟨xs,⟨o,es,ep,k _ _ g1 n,g2,g3,g4,g5,g6,g7,λy hy=>(g8 y hy).mono (k.kp hx su).kl⟩,h2⟩
theorem iC.ko{lp:Pos}{x a fi:Addr}(k:Ko x H H')(n:a≠x)(m:∀c,H c=some (.ext λh=>h.CodeRec (.ref c) lS)->c≠fi->c≠x)(h:iC lp a fi H):iC lp a fi H':=by
 rcases h with h|⟨c,h1,h2,h3⟩
 ·exact .inl (k _ _ h n)
 ·exact .inr ⟨c,k _ _ h1 n,k _ _ h2 (m c h2 h3),h3⟩
theorem j9{lp:Pos}{a fi:Addr}(h:iC lp a fi H):∃ps,H a=some (.tI ps):=by
 rcases h with h|⟨c,h1,_⟩
 ·exact⟨_,h⟩
 ·exact⟨_,h1⟩
theorem uz{a:Addr}(h:qk K s a H):∃f,H a=some (.ext f):=by
 obtain⟨xs,⟨o,es,ep,g1,_⟩,_⟩:=h;exact⟨_,g1⟩
theorem QX.Sm(B:QX T z s L M H)(k:Ko z.Li H H')(h:rR s z.Li H'):QX T z s L M H':=by
 obtain⟨lm,h1,_⟩:=B.lH;obtain⟨ps,ht⟩:=j9 B.tab;obtain⟨f,hf⟩:=uz B.jT;obtain⟨cs,c1,c2⟩:=B.closed;exact B.kp (k.kp h1 rfl) ⟨cs,k _ _ c1 B.sep,c2⟩ h (B.jT.ko k h1 rfl (cF hf h1 (by intro q;cases q))) (B.tab.ko k (cF ht h1 (by intro q;cases q)) λc hc _=>cF hc h1 (by intro q;cases q))
theorem QX.Sn(B:QX T z s L M H)(k:Ko z.Fi H H')(h:qk K s z.Fi H'):QX T z s L M H':=by
 obtain⟨lm,h1,_⟩:=id B.lH;obtain⟨ps,ht⟩:=j9 B.tab;obtain⟨f,hf⟩:=uz B.jT;obtain⟨cs,c1,c2⟩:=B.closed;exact B.kp (k.kp hf rfl) ⟨cs,k _ _ c1 (cF c1 hf (by intro q;cases q)),c2⟩ (B.lH.ko k hf rfl (cF h1 hf (by intro q;cases q))) h (B.tab.ko k (cF ht hf (by intro q;cases q)) λc _ n=>n)
theorem QX.Sl(B:QX T z s L M H)(k:Ko T.oW H H')(h:iC gq T.oW z.Fi H'):QX T z s L M H':=by
 obtain⟨lm,h1,_⟩:=id B.lH;obtain⟨ps,ht⟩:=j9 B.tab;obtain⟨f,hf⟩:=uz B.jT;obtain⟨cs,c1,c2⟩:=B.closed;exact B.kp (k.kp ht rfl) ⟨cs,k _ _ c1 (cF c1 ht (by intro q;cases q)),c2⟩ (B.lH.ko k ht rfl (cF h1 ht (by intro q;cases q))) (B.jT.ko k ht rfl (cF hf ht (by intro q;cases q))) h
theorem QX.list{D:Addr}{ys:List V}(B:QX T z s L M H)(e:Kp H H')(B':QX T z s L M H')(n:H D=none)(hD:H' D=none\/∃xs,H' D=some (.lst xs)):QX T z s L M (upd H' D (.lst ys)):=by
 have ne:∀{c:Addr}{o:HO},H' c=some o->(∀xs,o≠ .lst xs)->c≠D:=λhc ho=>by
  rcases hD with h|⟨xs,h⟩
  ·exact aR hc h
  ·exact cF hc h (ho xs)
 have k:Ko D H' (upd H' D (.lst ys)):=Ko.upd;obtain⟨cs,c1,c2⟩:=B'.closed;obtain⟨lm,l1,l2,l3⟩:=B'.lH;obtain⟨xs,⟨o,es,ep,g1,g2,g3,g4,g5,g6,g7,g8⟩,h2⟩:=B'.jT;have sq:∀{c:Addr}{vs:List V},c8 K H' c vs->c8 K (upd H' D (.lst ys)) c vs:=λhc=>by
  rcases hc with(hc|⟨u,hc⟩)|hc
  ·exact .inl (.inl (k _ _ hc (ne hc λ_ q=>by cases q)))
  ·exact .inl (.inr ⟨u,k _ _ hc (ne hc λ_ q=>by cases q)⟩)
  ·exact .inr hc
 refine B.kp (λb o hb so=>?_) ⟨cs,k _ _ c1 (ne c1 λ_ q=>by cases q),c2⟩ ⟨lm,k _ _ l1 (ne l1 λ_ q=>by cases q),l2,λe he=>⟨(l3 e he).1,k _ _ (l3 e he).2 (ne (l3 e he).2 λ_ q=>by cases q)⟩⟩
  ⟨xs,⟨o,es,ep,k _ _ g1 (ne g1 λ_ q=>by cases q),g2,g3,g4,g5,g6,g7,λy hy=>?_⟩,h2⟩ ?_
 ·exact k _ _ (e b o hb so) (aR hb n)
 ·obtain⟨t,t1,t2⟩:=g8 y hy
  exact⟨t,k _ _ t1 (ne t1 λ_ q=>by cases q),sq t2⟩
 ·rcases B'.tab with h|⟨c,h1,h2,h3⟩
  ·exact .inl (k _ _ h (ne h λ_ q=>by cases q))
  ·exact .inr ⟨c,k _ _ h1 (ne h1 λ_ q=>by cases q),k _ _ h2 (ne h2 λ_ q=>by cases q),h3⟩
def RQ(T:Tx K mg base)(z:Ad)(s:State)(L:List Paper)(M:List Deed)(H H':Hp):Prop:=Kp H H'/\(QX T z s L M H->QX T z s L M H')
theorem BM:Bs (RQ T z s L M):=⟨λH=>⟨Kp.refl H,id⟩,λa b=>⟨a.1.trans b.1,λh=>b.2 (a.2 h)⟩,λn hD k=>⟨k.1.gG n,λB=>B.list k.1 (k.2 B) n hD⟩,λk e=>k.1 _ _ e rfl,λk=>k.1.kt⟩
theorem BX.mem(B:BX T z s L M H){p:Paper}:p∈L↔p∈s.papers:=B.i6.mem_iff
theorem Co{ps:List Paper}(W:ps.Pairwise (λa b=>a.num<b.num)){p q:Paper}(hp:p∈ps)(hq:q∈ps)(e:p.num=q.num):p=q:=by
 obtain⟨i,hi,rfl⟩:=a8.mp hp;obtain⟨j,hj,rfl⟩:=a8.mp hq;rw[cD]at W;rcases Nat.lt_trichotomy i j with h|h|h
 ·have:=W i j hi hj h;omega
 ·subst h;rfl
 ·have:=W j i hj hi h;omega
theorem BX.inj(B:BX T z s L M H){p q:Paper}(hp:p∈L)(hq:q∈L)(e:p.num=q.num):p=q:=Co B.wf.ps (B.mem.mp hp) (B.mem.mp hq) e
theorem BX.at_(B:BX T z s L M H){p:Paper}(hp:p∈L):fB (kJ z L) (Sum.inl (p.num:Int))=some (V.ref (z.pa p.num)):=
 kM (f:=λp:Paper=>(Sum.inl (p.num:Int):Key)) (g:=λp=>V.ref (z.pa p.num)) hp λq hq e=>B.inj hq hp (by injection e with e;omega)
theorem BX.look(B:BX T z s L M H)(n:Int):(Pb.look s n=none/\fB (kJ z L) (Sum.inl n)=none)\/∃p∈L,(p.num:Int)=n/\Pb.look s n=some p/\fB (kJ z L) (Sum.inl n)=some (V.ref (z.pa p.num)):=by
 by_cases h:∃p∈L,(p.num:Int)=n
 ·obtain⟨p,hp,rfl⟩:=h
  exact .inr ⟨p,hp,rfl,Pb.Nw B.wf.ps (B.mem.mp hp) rfl,B.at_ hp⟩
 ·refine .inl ⟨Pb.IB λp hp e=>h ⟨p,B.mem.mpr hp,e⟩,?_⟩
  exact ig (f:=λp:Paper=>(Sum.inl (p.num:Int):Key)) (g:=λp=>V.ref (z.pa p.num)) λp hp e=>h ⟨p,hp,by injection e⟩
theorem BX.len(B:BX T z s L M H):L.length=s.papers.length:=B.i6.length_eq
theorem BX.uq(B:BX T z s L M H):L.length<=24:=by rw[B.len];exact B.wf.pl
theorem BX.vn(B:BX T z s L M H){p:Paper}(hp:p∈L):Pb.qm p.day:=(B.wf.pw p (B.mem.mp hp)).day
theorem BX.pw(B:BX T z s L M H){p:Paper}(hp:p∈L):Pb.Ro s p:=B.wf.pw p (B.mem.mp hp)
theorem yH{nm:List Nat}{p:Paper}(hp:nm.Perm p.names)(n:Nat):fB (fF nm) (Sum.inl (n:Int))=if p.names.contains n=true then some (V.bl true)else none:=by
 unfold fF
 by_cases h:n∈nm
 ·rw[kM (f:=λq:Nat=>(Sum.inl (q:Int):Key)) (g:=λ_=>V.bl true) h λq _ e=>by injection e with e;omega,az (by simpa using hp.mem_iff.mp h)]
 ·rw[ig (f:=λq:Nat=>(Sum.inl (q:Int):Key)) (g:=λ_=>V.bl true) λq hq e=>h (by injection e with e;rw[show n=q by omega];exact hq),aw (by simpa using λq=>h (hp.mem_iff.mpr q))]
theorem mX{nm:List Nat}{p:Paper}(hp:nm.Perm p.names)(n:Nat):(fB (fF nm) (Sum.inl (n:Int))).isSome=p.names.contains n:=by
 rw[yH hp];cases p.names.contains n<;>rfl
end
theorem vG{t u:TS}{D:Ends}{σ:L2.St}{H:Hp}(h:t {D with nx:=u D} σ H):RZ t u D σ H:=h
theorem oQ{c:TT}{t u:TS}{D:Ends}{σ:L2.St}{H:Hp}(h:c σ H λb H1=>if b=true then t D σ H1 else u D σ H1):R8 c t u D σ H:=h
theorem El(n:Int):∀rs:List Int,QG (V.int n) (rs.map V.int)=decide (n∈rs)
 | []=>by simp[QG]
 |r::rs=>by
  have ih:=El n rs;unfold QG at ih⊢;rw[aT,ic,ih];have e:Ml (V.int r) (V.int n)=decide (n=r):=by
   show(r==n)=decide (n=r);rw[bz,fb,bj];exact eq_comm
  rw[e,bz,dq,bj,bj,bj,aB]
theorem EX:∀rs:List Int,(rs.map V.int).all uA=true
 | []=>rfl
 |r::rs=>by rw[aT,jg,EX rs];rfl
theorem Mr{n:Nat}(h:VN n)(hs:n+1<yearStart 2209):VN (n+1):=by
 obtain⟨y,m,d,v,rfl⟩:=h
 by_cases h1:d<monthLength y m
 ·obtain⟨v2,e⟩:=Pb.G6 v h1;exact⟨_,_,_,v2,e⟩
 by_cases h2:m<12
 ·obtain⟨v2,e⟩:=Pb.yD v h1 h2;exact⟨_,_,_,v2,e⟩
 ·obtain⟨v2,e⟩:=Pb.A5 v h1 h2 (v.DY hs);exact⟨_,_,_,v2,e⟩
theorem Dl{n:Nat}(h:Pb.qm n):VN (yearLater n)/\yearLater n<yearStart 2201:=by
 obtain⟨y,m,d,v,hy,rfl⟩:=h;obtain⟨v2,e⟩:=Pb.later v (by omega);refine⟨⟨_,_,_,v2,e.symm⟩,?_⟩;rw[e];have a:=v2.Cv;have y1:=v.y1;have b:=Pb.mK v2.y1 (by omega);have c:=Pb.qp (k:=2201-(y+2)) (y:=y+2) (by omega) (by omega);rw[show y+2+(2201-(y+2))=2201 by omega]at c;unfold dayOf;rw[show y+1+1=y+2 from rfl]at b;omega
theorem XE:yearStart 2201+1410<yearStart 2209:=by decide +kernel
theorem Fp{n:Nat}(h:VN n):∀k:Nat,n+k<yearStart 2209->VN (n+k)
 |0,_=>h
 |k+1,hk=>Mr (Fp h k (by omega)) hk
theorem Ji{cs:List Nat}{n:Nat}(hc:∀c∈cs,VN c)(hn:VN n):(fB (cs.map λn=>(dk n,V.bl true)) (dk n)).isSome=decide (n∈cs):=by
 by_cases h:n∈cs
 ·rw[kM (f:=dk) (g:=λ_=>V.bl true) h λx hx e=>p9 (hc x hx) hn e,aJ h];rfl
 ·rw[ig (f:=dk) (g:=λ_=>V.bl true) λx hx e=>h (by rw[<-p9 (hc x hx) hn e];exact hx),aD h];rfl
section
variable{P:Program}{w:World}{K:c9}{mg:jB}{base:Heap}
def Py(T:Tx K mg base):Sp:=λvs H Q _=>∃(z:Ad)(s:State)(L:List Paper)(M:List Deed)(a:Addr)(n k:Nat),vs=[.ref z.b,.ref a]/\BX T z s L M H/\H a=some (.tup (dv n))/\VN n/\n+k+1<yearStart 2209/\(∀i,i<k->isClosed s (n+i)=true)/\isClosed s (n+k)=false/\
 ∀H' p,aS H H'->H' p=some (.tup (dv (n+k)))->Q (.ref p) H'
theorem ui(T:Tx K mg base):Ok P w base 4 T.lI (Py T):=by
 have nd:=lX.nd;refine T.lI.ok lX λH vs Q E hr h=>?_
 obtain⟨z,s,L,M,a,n,j,rfl,B,ha,hv,hs,hc,ho,k⟩:=h;have hu:=ft hr;refine⟨_,(af (sl 2 nd (pv 1))
   (af (sl 3 nd (pc T.weekday (FU T) hr (av 2 ah)))
   (af (ud cX (PW.pt (mS (bB A4 (pv 3) (aF (pv 0) rfl) (by with_unfolding_all rfl)) (mw (cS (pJ hu (pv 2) (aF (pv 0) rfl)))))) (af (sl 2 nd (pc T.vM (Ci T) hr (av 2 ah)))
   (au (sl 3 nd (dr vh (dr jr (pv 3) aC) aC)))))
   (au (aH (pv 2)))))),?_⟩
 refine⟨_,rfl,?_⟩;refine⟨_,rfl,a,n,rfl,c8.of ha,hv,λH1 s1=>?_⟩;refine⟨λm σ H'=>∃(i:Nat)(a':Addr),m=j-i/\i<=j/\aS H H'/\H' a'=some (.tup (dv (n+i)))/\σ=[some (.ref z.b),some (.ref a),some (.ref a'),some (.int (((n+i)%7:Nat):Int))],⟨j,0,a,rfl,bp _,s1,s1 _ _ ha,rfl⟩,?_⟩;rintro m σ H2 ⟨i,a',rfl,hi,s2,TJ,rfl⟩;have B2:=B.same s2;obtain⟨rs,hR,_,hrs⟩:=B2.rest;obtain⟨cs,hCd,nt⟩:=B2.closed;have vi:VN (n+i):=Fp hv i (by omega);have hcv:∀c∈cs,VN c:=λc h=>eW (B.wf.cv c (nt.mem_iff.mp h))
 refine mU (decide (((n+i)%7:Nat)∈s.rest)) (decide (n+i∈s.closed)) (λQ' q=>?_) (λ_ Q' q=>?_) ?_
 ·refine⟨_,rfl,_,rfl,_,_,_,_,_,rfl,B2.ins,T.bM.cl,T.ju,CQ,z.R,_,rfl,.inl (cG.of hR),rfl,EX rs,_,rfl,?_⟩
  rw[aw aK,El,show decide ((((n+i)%7:Nat):Int)∈rs)=decide (((n+i)%7:Nat)∈s.rest)from dP.mpr (hrs _)];exact q
 ·refine⟨_,rfl,_,rfl,_,_,_,_,_,rfl,B2.ins,T.bM.cl,T.fg,jA,z.Cd,_,rfl,eG.t (k:=dk (n+i)) hCd (by rw[zg];exact TJ),_,rfl,?_⟩
  rw[Ji hcv vi,show decide (n+i∈cs)=decide (n+i∈s.closed)from dP.mpr nt.mem_iff];exact q
 rw[show(decide (((n+i)%7:Nat)∈s.rest)||decide (n+i∈s.closed))=isClosed s (n+i) by unfold isClosed;simp];refine mY (λh1=>?_) (λh1=>?_)
 ·have lt:i<j:=by
   rcases i3 i j with h|h
   ·exact h
   ·rw[show i=j by omega,ho]at h1;cases h1
  refine⟨λgO H'=>∃U2:Addr,aS H H'/\H' U2=some (.tup (dv (n+(i+1))))/\gO=[some (.ref z.b),some (.ref a),some (.ref U2),some (.int (((n+(i+1))%7:Nat):Int))],λgO H'⟨U2,g1,g2,g3⟩=>⟨j-(i+1),by omega,i+1,U2,rfl,lt,g1,g2,g3⟩,?_⟩;refine⟨_,rfl,a',n+i,rfl,c8.of TJ,⟨vi,by omega⟩,λH3 p s3 _ hp=>?_⟩;refine⟨_,rfl,_,_,rfl,rfl,_,_,rfl,rfl,(by show(0:Int)<7;decide),p,s2.trans s3,hp,?_⟩;show _=[some (V.ref z.b),some (V.ref a),some (V.ref p),some (V.int (((n+(i+1))%7:Nat):Int))];rw[show(((n+(i+1))%7:Nat):Int)=((((n+i)%7:Nat):Int)+1)%7 by omega];rfl
 ·have e:i=j:=by
   rcases i3 i j with h|h
   ·rw[hc i h]at h1;cases h1
   ·omega
  subst e;exact⟨_,rfl,k _ _ s2 TJ⟩
theorem nN{z:Ad}{L:List Paper}{i:Nat}{p:Paper}{k:Key}{x:V}(hp:L[i]?=some p)(h:(kJ z L)[i]?=some (k,x)):x=.ref (z.pa p.num):=by
 unfold kJ at h;rw[aW,hp]at h;have e:=bw h;injection e with _ e
 exact e.symm
theorem gR(z:Ad)(L:List Paper):(kJ z L).length=L.length:=ab ..
theorem NU{z:Ad}{M:List Deed}{i:Nat}{p:Deed}{k:Key}{x:V}(hp:M[i]?=some p)(h:(rK z M)[i]?=some (k,x)):x=.ref (z.da p.num):=by
 unfold rK at h;rw[aW,hp]at h;have e:=bw h;injection e with _ e
 exact e.symm
theorem Hq(z:Ad)(M:List Deed):(rK z M).length=M.length:=ab ..
theorem yQ{a b:Nat}(ha:VN a)(hb:VN b):(!HT.lexLt (Vbptae.shown b) (Vbptae.shown a))=decide (a<=b):=by
 rw[eY hb ha,bz];simp
def MG(T:Tx K mg base):Sp:=λvs H Q _=>∃(z:Ad)(s:State)(L:List Paper)(M:List Deed)(p:Paper),vs=[.ref z.b,.ref (z.pa p.num)]/\QX T z s L M H/\p∈L/\∀H' a,Kp H H'->QX T z s L M H'->H' a=some (.tup (dv (limit s p)))->Q (.ref a) H'
theorem wG(T:Tx K mg base):Ok P w base 5 T.uo (MG T):=by
 refine T.uo.ok DC λH vs Q E hr h=>?_
 obtain⟨z,s,L,M,p,rfl,B,hp,k⟩:=h;have hu:=ft hr;refine⟨_,(af (bt (cS (cH hu (aF (pv 1) rfl) (aF (pv 0) rfl))) (au (md hu (aF (pv 0) rfl) (aF (pv 1) rfl) (pc T.lI (ui T) hr (av 0 (ag (pc T.rV (Ah T) hr (ag (aF (pv 1) rfl) ah)) ah))) rfl)) aQ)
   (au (aH (eJ hu (aF (pv 0) rfl) (aF (pv 1) rfl) (λ_ _=>rfl))))),?_⟩
 obtain⟨dx,dt,bl,nm,wd,pu,R⟩:=B.paper p hp;obtain⟨lm,h1,h2,h3⟩:=B.lH;have pw:=B.pw hp;have vp:=eW pw.day;have vl:∀e∈lm,VN e.1:=λe he=>by obtain⟨q,hq,e2⟩:=(h3 e he).1;rw[<-e2];exact eW (B.wf.pw q hq).day
 by_cases xG:∃e∈lm,e.1=p.day
 ·obtain⟨e,he,e1⟩:=xG
  have ev:fB (lm.map λe=>(dk e.1,V.ref e.2)) (dk p.day)=some (V.ref e.2):=by
   rw[<-e1];refine kM (f:=λe:Nat×Addr=>dk e.1) (g:=λe=>V.ref e.2) he λx hx q=>?_
   have q1:=p9 (vl x hx) (vl e he) q;obtain⟨i,hi,rfl⟩:=a8.mp hx;obtain⟨j,hj,rfl⟩:=a8.mp he;have:i=j:=OB h2 (x:=(lm[i]).1) (by rw[aW,ae hi];rfl) (by rw[aW,ae hj,q1];rfl)
   subst this;rfl
  refine⟨_,rfl,_,_,_,_,_,rfl,R.ins,T.Paper.cl,T.bG,dN,_,rfl,_,_,_,_,_,rfl,B.ins,T.bM.cl,T.gm,m9,z.Li,_,rfl,eG.t (k:=dk p.day) h1 (by rw[zg];exact R.date),_,rfl,?_⟩;rw[ev];refine iZ ?_;refine⟨_,rfl,_,_,_,_,_,rfl,B.ins,T.bM.cl,T.gm,m9,_,rfl,_,_,_,_,_,rfl,R.ins,T.Paper.cl,T.bG,dN,z.Li,V.ref e.2,rfl,(by have q:=eG.t (k:=dk p.day) h1 (by rw[zg];exact R.date);rw[ev]at q;exact q),?_⟩;refine k H e.2 (Kp.refl _) B ?_;rw[(h3 e he).2,e1];rfl
 ·have ev:fB (lm.map λe=>(dk e.1,V.ref e.2)) (dk p.day)=none:=ig (f:=λe:Nat×Addr=>dk e.1) (g:=λe=>V.ref e.2) λx hx q=>xG ⟨x,hx,p9 (vl x hx) vp q⟩
  have hlen:lm.length<=24:=by
   have q:=Pb.dW (l:=lm.map (·.1)) (k:=s.papers.map (·.day)) h2 λx hx=>by
    obtain⟨e,he,rfl⟩:=aV.mp hx;obtain⟨q,hq,e2⟩:=(h3 e he).1
    exact aV.mpr ⟨q,hq,e2⟩
   rw[ab,ab]at q;have:=B.wf.pl;omega
  refine⟨_,rfl,_,_,_,_,_,rfl,R.ins,T.Paper.cl,T.bG,dN,_,rfl,_,_,_,_,_,rfl,B.ins,T.bM.cl,T.gm,m9,z.Li,_,rfl,eG.t (k:=dk p.day) h1 (by rw[zg];exact R.date),_,rfl,?_⟩;rw[ev];refine gU ?_;obtain⟨v1,v2⟩:=Dl pw.day;obtain⟨j,hj,hc,ho,hl⟩:=Pb.yN s B.wf.rl B.wf.cl p;have fr:=XE;refine⟨_,rfl,_,rfl,_,_,_,_,_,rfl,R.ins,T.Paper.cl,T.bG,dN,dt,p.day,rfl,c8.of R.date,pw.day,λH1 a1 s1 _ e1=>?_⟩;refine⟨z,s,L,M,a1,yearLater p.day,j,rfl,B.toBX.same s1,e1,v1,by omega,hc,ho,λH2 a2 s2 e2=>?_⟩;rw[<-hl]at e2;have BJ:=s1.trans s2;have B2:=B.same BJ;have IX:=BJ _ _ h1;have R2:zC T.Paper.C H2 (z.pa p.num) (z.nd p.num) p dx dt bl nm wd pu:=R.keep BJ.kl (λo e=>BJ _ _ e) (λo e=>BJ _ _ e);have dput:=sZ.t (k:=dk p.day) (v:=V.ref a2) IX (by rw[zg];exact R2.date) (by rw[ab];exact jL (by omega));refine⟨_,rfl,_,_,_,_,_,rfl,B2.ins,T.bM.cl,T.gm,m9,_,rfl,_,_,_,_,_,rfl,R2.ins,T.Paper.cl,T.bG,dN,z.Li,_,rfl,dput,?_⟩;have ek:putK (lm.map λe=>(dk e.1,V.ref e.2)) (dk p.day) (V.ref a2)=(lm++ [(p.day,a2)]).map λe=>(dk e.1,V.ref e.2):=by rw[jm _ ev,aZ];rfl
  rw[ek];have NA:Kp H2 (upd H2 z.Li (.dT ((lm++ [(p.day,a2)]).map λe=>(dk e.1,V.ref e.2)))):=Kp.soft IX rfl
  have ne:∀{c:Addr}{o:HO},H2 c=some o->(∀q,o≠ .dT q)->c≠z.Li:=λhc hn=>cF hc IX (hn _)
  generalize US:upd H2 z.Li (.dT ((lm++ [(p.day,a2)]).map λe=>(dk e.1,V.ref e.2)))=H3 at NA
  have e3:H3 z.Li=some (.dT ((lm++ [(p.day,a2)]).map λe=>(dk e.1,V.ref e.2))):=by rw[<-US];exact ai
  have tJ:∀{c:Addr}{o:HO},H2 c=some o->c≠z.Li->H3 c=some o:=λhc hn=>by rw[<-US,aG hn];exact hc
  have a3:H3 a2=some (.tup (dv (limit s p))):=NA _ _ e2 rfl;have B3:QX T z s L M H3:=by
   refine B2.Sm (by rw[<-US];exact Ko.upd) ⟨lm++ [(p.day,a2)],e3,?_,λe he=>?_⟩
   ·rw[aZ]
    exact xB h2 λm=>by obtain⟨e,he,q⟩:=aV.mp m;exact xG ⟨e,he,q⟩
   ·rcases br.mp he with q|q
    ·exact⟨(h3 e q).1,NA _ _ (BJ _ _ (h3 e q).2) rfl⟩
    ·rw[aP.mp q];exact⟨⟨p,B.mem.mp hp,rfl⟩,a3⟩
  refine⟨_,rfl,_,_,_,_,_,rfl,B3.ins,T.bM.cl,T.gm,m9,_,rfl,_,_,_,_,_,rfl,NA _ _ R2.ins rfl,T.Paper.cl,T.bG,dN,z.Li,V.ref a2,rfl,?_,k H3 a2 (BJ.kp.trans NA) B3 a3⟩;have q:=eG.t (k:=dk p.day) e3 (by rw[zg];exact NA _ _ R2.date rfl);rw[kM (f:=λe:Nat×Addr=>dk e.1) (g:=λe=>V.ref e.2) (a:=(p.day,a2)) (by simp) (λx hx q=>?_)]at q
  ·exact q
  ·rcases br.mp hx with g|g
   ·exact absurd ⟨x,g,p9 (vl x g) vp q⟩ xG
   ·exact aP.mp g
def MD(T:Tx K mg base):Sp:=λvs H Q _=>∃(z:Ad)(s:State)(L:List Paper)(M:List Deed)(p:Paper)(d:Addr)(t:Nat),vs=[.ref z.b,.ref (z.pa p.num),.ref d]/\QX T z s L M H/\p∈L/\c8 K H d (dv t)/\VN t/\∀H',aS H H'->Q (.bl (s.papers.any λq=>decide (q.day<=t)&&q.names.contains p.num)) H'
theorem sy(T:Tx K mg base):Ok P w base 1 T.kF (MD T):=by
 have nd:=lE.nd;refine T.kF.ok lE λH vs Q E hr h=>?_
 obtain⟨z,s,L,M,p,d,t,rfl,B,hp,hd,vt,k⟩:=h;have hu:=ft hr;refine⟨_,(au (aH (bQ (LQ rfl) (by rfl) T.OW boot_any (ag (oK rfl nd (i7 (aF (pv 0) rfl)) (fI (N:=["book","paper","day","other"]) (sc:=aL jl) (own:=[("other",3)]) (by decide +kernel)) (λ_ _ _ _ _=>(gl 3 nd)) (λ_ _ _ _ _=>jn) (λ_ _ _ _ _=>(pI (gg (B8 (K:=K) rfl hr.ji) (gf (K:=K) rfl (pv 3) rfl) (pv 2) (bK _)) (nQ (P5 (pJ hu (gf (K:=K) rfl (pv 1) rfl) (gf (K:=K) rfl (pv 3) rfl))))))) ah)))),?_⟩;obtain⟨dx,dt,bl,nm,wd,pu,R⟩:=B.paper p hp;obtain⟨o,fP⟩:=B.fP;refine⟨_,rfl,_,_,_,_,_,rfl,B.ins,T.bM.cl,T.aI,bc,z.P,o,_,rfl,fP,λD hD=>Ny (L:=L) hC hD (by have:=B.uq;omega) (λq=>.bl (decide (q.day<=t)&&q.names.contains p.num)) (λi H' hi s=>pV (s _ _ fP) (by rw[gR];exact hi)) (λH' s=>by have q:=kh (s _ _ fP);rw[gR]at q;exact q) (λi q x H1 H2 N1 hi s1 y kk=>?_) λH' s1 e=>?_⟩
 ·obtain⟨rfl,key,hx⟩:=y
  have ex:=nN hi hx;subst ex;have hq:q∈L:=aY hi;have B1:=B.same s1;obtain⟨sL,AB,Fb,Oz,Mq,M9,R'⟩:=B1.paper q hq;have ip:=s1 _ _ R.ins;refine⟨rfl,xK (decide (q.day<=t)) (q.names.contains p.num) (λQ' k'=>?_) (λ_ Q' k'=>?_) (kk _ (aS.refl _))⟩
  ·refine⟨_,rfl,_,_,_,_,_,rfl,R'.ins,T.Paper.cl,T.bG,dN,_,rfl,AB,d,Vbptae.shown q.day,Vbptae.shown t,rfl,rfl,c8.of R'.date,s1.AQ hd,?_⟩
   rw[yQ (eW (B.vn hq)) vt];exact k'
  ·refine⟨_,rfl,_,_,_,_,_,rfl,ip,T.Paper.cl,T.bS,df,_,rfl,_,_,_,_,_,rfl,R'.ins,T.Paper.cl,T.cq,fE,z.nd q.num,_,rfl,eG.k (k:=Sum.inl (p.num:Int)) R'.named,?_⟩
   rw[mX R'.perm];exact k'
 ·refine⟨D,L.map λq=>decide (q.day<=t)&&q.names.contains p.num,rfl,cG.of (by rw[e,bC];rfl),?_⟩
  rw[any_map,Pb.EW B.i6];exact k H' s1
def PH(T:Tx K mg base):Sp:=λvs H Q _=>∃(z:Ad)(s:State)(L:List Paper)(M:List Deed)(p:Paper)(d:Addr)(t:Nat),vs=[.ref z.b,.ref (z.pa p.num),.ref d]/\QX T z s L M H/\p∈L/\c8 K H d (dv t)/\VN t/\∀H',aS H H'->Q (.bl (gone s p t)) H'
theorem vm(T:Tx K mg base):Ok P w base 2 T.mC (PH T):=by
 refine T.mC.ok va λH vs Q E hr h=>?_
 obtain⟨z,s,L,M,p,d,t,rfl,B,hp,hd,vt,k⟩:=h;refine⟨_,(af (bt (PW.pt (mS (cS (FQ (aF (pv 1) rfl))) (mS (bB (B9 (K:=K) rfl hr.ji) (aF (pv 1) rfl) (pv 2) (bK _)) (mw (cR (aF (pv 1) rfl)))))) (au (aH jo)) aQ)
   (af (bt (PW.pt (nL (cS (xA (aF (pv 1) rfl))) (kP (bB (B8 (K:=K) rfl hr.ji) (aF (pv 1) rfl) (pv 2) (bK _))))) (au (aH jo)) aQ)
   (au (aH (Kn (pc T.kF (sy T) hr (av 0 (av 1 (av 2 ah))))))))),?_⟩
 obtain⟨dx,dt,bl,nm,wd,pu,R⟩:=B.paper p hp;have pw:=B.pw hp;refine mU (decide (p.out=none)) (!(p.out.any λo=>decide (o.1<=t)&&!o.2)) (λQ' q=>?_) (λh0 Q' q=>?_) ?_
 ·refine⟨_,rfl,_,_,_,_,_,rfl,R.ins,T.Paper.cl,T.cV,gF,_,rfl,?_⟩
  have e:decide (wd=V.fL)=decide (p.out=none):=by
   have ho:=R.out;cases j7:p.out with
   |none=>rw[j7]at ho;have:wd=.fL:=ho;rw[this];simp
   |some o=>rw[j7]at ho;obtain⟨a,e1,_⟩:=ho;rw[e1];simp
  rw[e];exact q
 ·have ho:=R.out
  cases j7:p.out with
  |none=>rw[j7]at h0;simp at h0
  |some o=>
   rw[j7]at ho q;obtain⟨a,e1,e2⟩:=ho;have e2:H a=some (.tup (dv o.1)):=e2;subst e1;refine mU (decide (t<o.1)) o.2 (λXt q'=>?_) (λ_ Xt q'=>?_) ?_
   ·refine⟨_,rfl,_,_,_,_,_,rfl,R.ins,T.Paper.cl,T.cV,gF,_,rfl,a,d,Vbptae.shown o.1,Vbptae.shown t,rfl,rfl,c8.of e2,hd,_,rfl,?_⟩
    rw[eY vt (eW (pw.out o j7))];exact q'
   ·refine⟨_,rfl,_,_,_,_,_,rfl,R.ins,T.Paper.cl,T.fT,pM,_,rfl,?_⟩
    rw[j7];exact q'
   ·rw[show(decide (t<o.1)||o.2)=!((some o:Option (Nat×Bool)).any λo=>decide (o.1<=t)&&!o.2) by
     simp only[Option.any_some];rw[Bool.not_and,Bool.not_not,<-decide_not];congr 1;exact dP.mpr (by omega)]
    exact q
 refine mY (λh1=>?_) (λh1=>?_)
 ·have e:gone s p t=false:=by
   unfold gone;cases j7:p.out with
   |none=>rfl
   |some o=>rw[j7]at h1;simp only[reduceCtorEq,decide_false,Fl,f6]at h1;rw[h1];rfl
  have q:=k H (aS.refl _);rw[e]at q;exact q
 have ho:(p.out.any λo=>decide (o.1<=t)&&!o.2)=true:=by
  rw[oV]at h1;simpa using h1.2
 dsimp only[xV];refine vG (oQ ?_);refine sU (decide (p.shown≠none)) (p.shown.any λx=>decide (x<=t)) (λQ' q=>?_) (λh0 Q' q=>?_) ?_
 ·refine⟨_,rfl,_,_,_,_,_,rfl,R.ins,T.Paper.cl,T.dE,jq,_,rfl,?_⟩
  have e:(!decide (pu=V.fL))=decide (p.shown≠none):=by
   have ho:=R.shown;cases j7:p.shown with
   |none=>rw[j7]at ho;have:pu=.fL:=ho;rw[this];simp
   |some o=>rw[j7]at ho;obtain⟨a,e1,_⟩:=ho;rw[e1];simp
  rw[e];exact q
 ·have ho:=R.shown
  cases j7:p.shown with
  |none=>rw[j7]at h0;simp at h0
  |some o=>
   rw[j7]at ho q;obtain⟨a,e1,e2⟩:=ho;subst e1;refine⟨_,rfl,_,_,_,_,_,rfl,R.ins,T.Paper.cl,T.dE,jq,_,rfl,a,d,Vbptae.shown o,Vbptae.shown t,rfl,rfl,c8.of e2,hd,_,rfl,?_⟩;rw[yQ (eW (pw.shown o j7)) vt];exact q
 rw[show(decide (p.shown≠none)&&p.shown.any λx=>decide (x<=t))=p.shown.any λx=>decide (x<=t) by cases p.shown<;>simp];refine mY (λh2=>?_) (λh2=>?_)
 ·have e:gone s p t=false:=by unfold gone;rw[h2,ho];rfl
  have q:=k H (aS.refl _);rw[e]at q;exact q
 ·refine⟨_,rfl,_,rfl,_,rfl,z,s,L,M,p,d,t,rfl,B,hp,hd,vt,λH' s'=>⟨_,rfl,?_⟩⟩
  have e:gone s p t=!(s.papers.any λq=>decide (q.day<=t)&&q.names.contains p.num):=by unfold gone;rw[h2,ho];rfl
  have q:=k H' s';rw[e]at q;exact q
def my(p:Paper)(b:Box)(r:Paper):Bool:=decide (r.day<p.day)&&(decide (r.who=p.who)&&r.boxes.contains b)
theorem yT(s:State)(p:Paper)(b:Box):isFirst s p b=s.papers.all λr=>!my p b r||gone s r p.day:=by
 unfold isFirst my;congr 1
 funext r
 congr 2;rw[bz];simp;constructor<;>(rintro⟨h1,h2,h3⟩;exact⟨by assumption,by assumption,by assumption⟩)
def MC(T:Tx K mg base):Sp:=λvs H Q _=>∃(z:Ad)(s:State)(L:List Paper)(M:List Deed)(p:Paper)(c:Addr)(b:Box),vs=[.ref z.b,.ref (z.pa p.num),.ref c]/\QX T z s L M H/\p∈L/\c8 K H c (bv b)/\∀H',aS H H'->Q (.bl (isFirst s p b)) H'
theorem mz(T:Tx K mg base):Ok P w base 3 T.gP (MC T):=by
 have nd:=iO.nd;refine T.gP.ok iO λH vs Q E hr h=>?_
 obtain⟨z,s,L,M,p,c,b,rfl,B,hp,hc,k⟩:=h;have hu:=ft hr;refine⟨_,(af (lG cX rfl (i7 (aF (pv 0) rfl)) (gl 3 nd) (af (sl 4 nd (pI (gg (mf (K:=K) rfl hr.ji) (aF (pv 3) rfl) (aF (pv 1) rfl) (bK _)) (pI (gg eA (aF (pv 3) rfl) (aF (pv 1) rfl) (bK _)) (nQ (gg (FT hu) (pv 2) (aF (pv 3) rfl) (by with_unfolding_all rfl))))))
   (au (bt (PW.pt (nL (cR (pv 4)) (kP (cZ (cR (pc T.mC (vm T) hr (av 0 (av 3 (ag (aF (pv 1) rfl) ah))))))))) (au (aH jo)) aQ))))
   (au (aH jo))),?_⟩
 obtain⟨dx,dt,bl,nm,wd,pu,R⟩:=B.paper p hp;obtain⟨o,fP⟩:=B.fP;have pw:=B.pw hp;refine⟨_,rfl,_,_,_,_,_,rfl,B.ins,T.bM.cl,T.aI,bc,z.P,o,_,rfl,fP,mH (n:=L.length) (λi σ H'=>aS H H'/\(∃v3 v4:Option V,σ=[some (.ref z.b),some (.ref (z.pa p.num)),some (.ref c),v3,v4])/\∀r∈L.take i,(!my p b r||gone s r p.day)=true) ⟨aS.refl _,⟨none,none,rfl⟩,λr hr=>by simp at hr⟩
  (λi σ H' hi h=>pV (h.1 _ _ fP) (by rw[gR];exact hi)) (λσ H' h=>by have q:=kh (h.1 _ _ fP);rw[gR]at q;exact q) ?_ ?_⟩
 ·rintro i x σ H1 H2 hi ⟨s1,⟨v3,v4,rfl⟩,jy⟩ ⟨rfl,key,hx⟩
  have hr:L[i]?=some L[i]:=ae hi;have Dd:L[i]∈L:=bL hi;generalize L[i]=r at hr Dd;have ex:=nN hr hx;subst ex;have B1:=B.same s1;obtain⟨sL,AB,Fb,Oz,Mq,M9,R'⟩:=B1.paper r Dd;obtain⟨cs,nt,vF⟩:=R'.boxes;have ip:=s1 _ _ R.ins;refine(xK (decide (r.day<p.day)) (decide (r.who=p.who)&&r.boxes.contains b) (λQ' q=>?_) (λ_ Q' q=>?_) ?_:GO _ _ _ _ _)
  ·refine⟨_,rfl,_,_,_,_,_,rfl,R'.ins,T.Paper.cl,T.bG,dN,_,rfl,_,_,_,_,_,rfl,ip,T.Paper.cl,T.bG,dN,AB,dt,Vbptae.shown r.day,Vbptae.shown p.day,rfl,rfl,c8.of R'.date,c8.of (s1 _ _ R.date),?_⟩
   rw[eY (eW (B.vn Dd)) (eW pw.day)];exact q
  ·refine(xK (decide (r.who=p.who)) (r.boxes.contains b) (λXt q'=>?_) (λ_ Xt q'=>?_) q:GO _ _ _ _ _)
   ·refine⟨_,rfl,_,_,_,_,_,rfl,R'.ins,T.Paper.cl,T.fm,pL,_,rfl,_,_,_,_,_,rfl,ip,T.Paper.cl,T.fm,pL,rfl,?_⟩
    rw[xa,show decide ((r.who:Int)=(p.who:Int))=decide (r.who=p.who)from dP.mpr (by omega)];exact q'
   ·refine⟨_,rfl,_,rfl,_,_,_,_,_,rfl,R'.ins,T.Paper.cl,T.cC,fS,Fb,c,cs,Vbptae.ints b,r.boxes.map Vbptae.ints,rfl,rfl,cG.of nt,s1.AQ hc,vF.lB,?_⟩
    rw[show(if false=true then !decide (Vbptae.ints b∈r.boxes.map Vbptae.ints)else decide (Vbptae.ints b∈r.boxes.map Vbptae.ints))=r.boxes.contains b by
     rw[aw aK,bz,bj,yK];simp]
    exact q'
  ·have fin:∀H',aS _ H'->(!my p b r||gone s r p.day)=true->aS H H'/\(∃v3 v4:Option V,[some (V.ref z.b),some (.ref (z.pa p.num)),some (.ref c),some (.ref (z.pa r.num)),some (.bl (my p b r))]=[some (.ref z.b),some (.ref (z.pa p.num)),some (.ref c),v3,v4])/\∀q∈L.take (i+1),(!my p b q||gone s q p.day)=true:=λH' s2 e=>⟨s1.trans s2,⟨_,_,rfl⟩,λq hq=>by
    rw[take_snoc hr]at hq;rcases br.mp hq with g|g
    ·exact jy q g
    ·rw[aP.mp g];exact e⟩
   dsimp only[m5];refine oQ ?_;refine⟨_,rfl,_,rfl,?_⟩;refine mY (λh1=>?_) (λh1=>?_)
   ·refine⟨_,rfl,_,rfl,_,rfl,_,_,_,_,_,rfl,ip,T.Paper.cl,T.bG,dN,z,s,L,M,r,dt,p.day,rfl,B1,Dd,c8.of (s1 _ _ R.date),eW pw.day,λH3 s3=>⟨_,rfl,kK (λh2=>?_) (λh2=>fin H3 s3 (by rw[h2];exact Bool.or_true _))⟩⟩
    have q:=k H3 (s1.trans s3);rw[yT,show(s.papers.all λr=>!my p b r||gone s r p.day)=false by
     rw[List.all_eq_false];exact⟨r,B.mem.mp Dd,by rw[show my p b r=true from h1,h2];decide⟩]at q
    exact q
   ·exact iZ (fin _ (aS.refl _) (by rw[show my p b r=false from h1];rfl))
 ·rintro σ H1 ⟨s1,⟨v3,v4,rfl⟩,jy⟩
  have q:=k H1 s1;rw[yT,<-Pb.L4 B.i6,show(L.all λr=>!my p b r||gone s r p.day)=true by
   rw[bE];rw[cM]at jy;exact jy]at q
  exact q
def MJ(T:Tx K mg base):Sp:=λvs H Q _=>∃(z:Ad)(s:State)(L:List Paper)(M:List Deed)(p:Paper)(c:Addr)(b:Box),vs=[.ref z.b,.ref (z.pa p.num),.ref c]/\QX T z s L M H/\p∈L/\b∈p.boxes/\c8 K H c (bv b)/\∀H',Kp H H'->QX T z s L M H'->Q (.bl (isFirst s p b)) H'
theorem G8{xs:List NE}(hn:(xs.map (·.1)).Nodup) {x:NE} (hx:x∈xs):KP xs x.1=some x.2.2:=by
 unfold KP
 induction xs with
 |nil=>cases hx
 |cons y ys ih=>
  rw[aT,bY]at hn;rw[dM];rcases aB.mp hx with e|e
  ·subst e;simp
  ·have:¬y.1=x.1:=λq=>hn.1 (q▸ff e)
   rw[aD this];exact ih hn.2 e
theorem KO{xs:List NE}{k:PK}(h:∀x∈xs,x.1≠k):KP xs k=none:=by
 unfold KP;rw[Option.map_eq_none_iff,List.find?_eq_none];intro x hx;simpa using h x hx
theorem wH(T:Tx K mg base):Ok P w base 4 T.uv (MJ T):=by
 have nd:=wb.nd;refine T.uv.ok wb λH vs Q E hr h=>?_
 obtain⟨z,s,L,M,p,c,b,rfl,B,hp,hb,hc,k⟩:=h;refine⟨_,(af (sl 3 nd (nO (ag (aF (pv 1) rfl) (av 2 ah))))
   (af (bt (cS (Io hr.units (pv 3) (aF (pv 0) rfl))) (au (Na hr.units (aF (pv 0) rfl) (pv 3) (pc T.gP (mz T) hr (av 0 (av 1 (av 2 ah)))) rfl)) aQ)
   (au (aH (Nh hr.units (aF (pv 0) rfl) (pv 3) (λ_ _=>rfl)))))),?_⟩
 obtain⟨dx,dt,bl,nm,wd,pu,R⟩:=B.paper p hp;refine⟨_,rfl,_,_,_,_,_,rfl,R.ins,T.Paper.cl,T.bS,df,_,rfl,(by show 2<=sizeLine;decide),λt ht=>?_⟩;have s1:aS H (upd H t (.tup [.int p.num,.ref c])):=aS.new ht;generalize QZ:upd H t (.tup [.int p.num,.ref c])=H1 at s1;have B1:=B.same s1;have pk:zD K H1 t ((p.num:Int),Vbptae.ints b):=⟨c,by rw[<-QZ];exact ai,s1.AQ hc⟩;obtain⟨xs,hN,Ta⟩:=B1.jT;have Mf:(xs.map (·.1)).Nodup:=by obtain⟨_,_,_,_,_,_,_,g,_⟩:=hN;exact g
 rcases Classical.em (∃x∈xs,x.1=((p.num:Int),Vbptae.ints b))with xG|xG
 ·obtain⟨x,hx,e1⟩:=xG
  obtain⟨q,hq,b',xH,e2,e3⟩:=Ta x hx;rw[e1]at e2;injection e2 with e2 e4
  have eb:=uw e4;subst eb;have ep:=Co B.wf.ps hq (B.mem.mp hp) (by omega);subst ep;have ea:=G8 Mf hx;rw[e1,e3]at ea;refine⟨_,rfl,_,rfl,_,_,_,_,_,rfl,B1.ins,T.bM.cl,T.gn,nh,z.Fi,t,_,xs,rfl,rfl,hN,pk,_,rfl,?_⟩;rw[ea];refine iZ ⟨_,rfl,_,_,_,_,_,rfl,B1.ins,T.bM.cl,T.gn,nh,_,rfl,z.Fi,t,_,xs,_,rfl,rfl,hN,pk,ea,k H1 s1.kp B1⟩
 ·have ea:KP xs ((p.num:Int),Vbptae.ints b)=none:=KO λx hx e=>xG ⟨x,hx,e⟩
  have hlen:xs.length<=288:=by
   have q:=Pb.dW (l:=xs.map (·.1)) (k:=s.papers.flatMap λq=>q.boxes.map λb=>((q.num:Int),Vbptae.ints b)) Mf λy hy=>by
    obtain⟨x,hx,rfl⟩:=aV.mp hy;obtain⟨q,hq,b',xH,e2,_⟩:=Ta x hx;rw[e2];exact List.mem_flatMap.mpr ⟨q,hq,aV.mpr ⟨b',xH,rfl⟩⟩
   rw[ab]at q;have q2:(s.papers.flatMap λq=>q.boxes.map λb=>((q.num:Int),Vbptae.ints b)).length<=s.papers.length*12:=by
    have gen:∀l:List Paper,(∀q∈l,q.boxes.length<=12)->(l.flatMap λq=>q.boxes.map λb=>((q.num:Int),Vbptae.ints b)).length<=l.length*12:=by
     intro l
     induction l with
     |nil=>intro _;simp
     |cons q l ih=>
      intro h;rw[List.flatMap_cons,aA,ab,aq];have:=ih λq hq=>h q (ao _ hq)
      have:=h q ax;omega
    exact gen _ λq hq=>(B.wf.pw q hq).b2
   have:=B.wf.pl;omega
  refine⟨_,rfl,_,rfl,_,_,_,_,_,rfl,B1.ins,T.bM.cl,T.gn,nh,z.Fi,t,_,xs,rfl,rfl,hN,pk,_,rfl,?_⟩;rw[ea];refine gU ?_;refine⟨_,rfl,_,rfl,_,rfl,z,s,L,M,p,c,b,rfl,B1,hp,s1.AQ hc,λH2 s2=>?_⟩;have B2:=B1.same s2;have UR:=hN.same s2;have pk2:=pk.mono s2.kl;refine⟨_,rfl,_,_,_,_,_,rfl,B2.ins,T.bM.cl,T.gn,nh,_,rfl,z.Fi,t,_,xs,_,rfl,rfl,rfl,UR,pk2,by omega,ea,λo' WY=>?_⟩;obtain⟨f,hf⟩:=uz B2.jT;have B3:QX T z s L M (upd H2 z.Fi (oO z.Fi o')):=by
   refine B2.Sn Ko.upd ⟨_,WY,λx hx=>?_⟩;rcases br.mp hx with g|g
   ·exact Ta x g
   ·rw[aP.mp g];exact⟨p,B.mem.mp hp,b,hb,rfl,rfl⟩
  have NA:Kp H2 (upd H2 z.Fi (oO z.Fi o')):=Kp.soft hf rfl;refine⟨_,rfl,_,_,_,_,_,rfl,B3.ins,T.bM.cl,T.gn,nh,_,rfl,z.Fi,t,_,_,_,rfl,rfl,WY,pk2.mono NA.kl,?_,k _ ((s1.trans s2).kp.trans NA) B3⟩
  have nd3:((xs++ [(((p.num:Int),Vbptae.ints b),t,isFirst s p b)]).map (·.1)).Nodup:=by obtain⟨_,_,_,_,_,_,_,g,_⟩:=WY;exact g
  exact G8 nd3 (x:=(((p.num:Int),Vbptae.ints b),t,isFirst s p b)) (by simp)
end
end Pr
namespace Pr
open PySem PySem.Spec PyProof.Rows L2 Vbptae PbP
open PySem.W (CodeHd tabObj kla_fn kla_obj kla_eval kla_makeFunction kla_makeFunctionHit)
def N7(params:Arguments)(body:Expr)(scope:Scope)(H:Hp)(f:Addr):Prop:=∃c pm xc,H f=some (oO f (kla_obj "<lambda>" lS params body scope [] pm c xc))/\H c=some (.ext λh=>h.CodeRec (.ref c) lS)
theorem N7.same{params:Arguments}{body:Expr}{scope:Scope}{H H':Hp}{f:Addr}(e:aS H H')(h:N7 params body scope H f):N7 params body scope H' f:=let⟨c,pm,xc,h1,h2⟩:=h;⟨c,pm,xc,e _ _ h1,e _ _ h2⟩
theorem EJ{P:Program}{w:World}{H:Hp}{h:Heap}{c:Addr}{q:Str}(x:h.CodeRec (.ref c) q):fz P w H h c (.ext λh=>h.CodeRec (.ref c) q):=by
 obtain⟨c',oc,vs,tq,e,h1,h2,h3⟩:=id x;cases e;exact⟨x,⟨oc,h1⟩,λg1 g2⟨c2,oc2,vs2,tq2,e2,a1,a2,a3⟩k=>by cases e2;exact⟨c,oc2,vs2,tq2,rfl,k _ a1,a2,a3⟩⟩
section
variable{K:c9}{mg:jB}{base:Heap}{T:Tx K mg base}
theorem Qq(T:Tx K mg base){X:Cx}{pins:List (Addr×Obj)}{σ:L2.St}{H:Hp}{s:Shared}{E:fw}{params:Arguments}{body:Expr}{scope:Scope}{lp:Pos}{fi:Addr}{Q:fw}(I:L2.Inv X pins σ H s)(hK:X.K=K)(QP:X.mg=mg)(hB:X.base=base)(Hh:X.env.code=.ref T.dc)(hq:X.env.qual++ "<lambda>"=lS)
  (QU:defaultsOf params X.env=([],[]))(F9:closureFor scope X.env=pure [])(Wu:lp=gq)(ht:iC gq T.oW fi H)(RI:∃o,H fi=some o)
  (q:∀s' H' f,L2.Inv X pins σ H' s'->Ko T.oW H H'->iC gq T.oW fi H'->N7 params body scope H' f->Q (.ref f) s'):wpAny (model X.prog X.w) X.A (eval (.Lambda params body scope lp) X.env) Q E s:=by
 subst Wu;refine kla_eval QU ?_;rw[hq];have W0:K.In s.heap:=by rw[<-hK];exact I.E6
 have hg:s.heap.Ns mainGlobals mg:=by rw[<-QP];exact I.mod.glob.keeps I.bk
 have C:=T.XF s.heap W0;obtain⟨bm,ob,b1,b2,b3,b4,b5,b6⟩:=T.bmod;have TF:s.heap.get? bm=some ob:=I.bk _ _ (by rw[hB];exact b3);obtain⟨ps,IJ⟩:=j9 ht;have oT:s.heap.get? T.oW=some (tabObj ps):=I.dy _ _ IJ;have hgP:mainGlobals≠T.oW:=λe=>by
  obtain⟨o,es,ep,g1,g2,_⟩:=hg;rw[e,oT]at g1;cases g1;cases g2
 have hbP:bm≠T.oW:=λe=>by rw[e,oT]at TF;cases TF;cases b4
 have hbG:bm≠mainGlobals:=λe=>by
  obtain⟨o,es,ep,g1,g2,_⟩:=hg;rw[e,g1]at TF;cases TF;rw[g2]at b6;cases b6
 have hB:s.heap.BuiltinsAt mg T.oW:=⟨bm,ob,b1,b2,hbG,hbP,TF,b4,b5,b6⟩;rcases ht with ht|⟨c,ht,hc,hcf⟩
 ·rw[IJ]at ht
  cases ht;refine kla_makeFunction (mg:=mg) F9 I.ok.glob hg Hh C oT trivial rfl hgP hB λc xc h' tk hx UM lT Wg Td=>?_
  have nc:H c=none:=I.dy.fresh UM;have nf:H h'.objs.size=none:=I.dy.fresh (bf UM (gZ lT));have ctb:c≠T.oW:=(aR IJ nc).symm
  have ftb:h'.objs.size≠T.oW:=(aR IJ nf).symm
  have cf:c≠h'.objs.size:=a0 lT;obtain⟨o,hfo⟩:=RI;have cfi:c≠fi:=(aR hfo nc).symm
  have Tg:=Wg;obtain⟨c2,oc,vs,tq,e2,r1,r2,r3⟩:=Tg;cases e2;have up:∀b ob,h'.get? b=some ob->(h'.push (kla_obj "<lambda>" lS params body scope [] ((mg "__name__").getD .none) c xc)).get? b=some ob:=λb ob e=>ak _ e
  have eF:(h'.push (kla_obj "<lambda>" lS params body scope [] ((mg "__name__").getD .none) c xc)).get? h'.objs.size=some (kla_obj "<lambda>" lS params body scope [] ((mg "__name__").getD .none) c xc):=aO _ rfl
  let H2:Hp:=upd (upd (upd H T.oW (.tI #[rawInt gq.line,rawInt gq.col,.ref c])) c (.ext λh=>h.CodeRec (.ref c) lS)) h'.objs.size (oO h'.objs.size (kla_obj "<lambda>" lS params body scope [] ((mg "__name__").getD .none) c xc))
  have e1:H2 T.oW=some (.tI #[rawInt gq.line,rawInt gq.col,.ref c]):=by show upd _ _ _ _=_;rw[aG ftb.symm,aG ctb.symm,ai]
  have e2:H2 c=some (.ext λh=>h.CodeRec (.ref c) lS):=by show upd _ _ _ _=_;rw[aG cf,ai]
  have e3:H2 h'.objs.size=some (oO h'.objs.size (kla_obj "<lambda>" lS params body scope [] ((mg "__name__").getD .none) c xc)):=ai
  have ot:∀b,b≠T.oW->b≠c->b≠h'.objs.size->H2 b=H b:=λb n1 n2 n3=>by show upd _ _ _ _=_;rw[aG n3,aG n2,aG n1]
  have old:∀b u,H b=some u->b≠T.oW->H2 b=some u:=λb u e n=>by rw[ot b n (aR e nc) (aR e nf)];exact e
  have kp:∀b u,b≠T.oW->s.heap.get? b=some u->(h'.push (kla_obj "<lambda>" lS params body scope [] ((mg "__name__").getD .none) c xc)).get? b=some u:=λb u n e=>up b u (hx b u n e)
  have VB:∀b,H b=none->b≠T.oW:=λb n e=>by rw[e,IJ]at n;cases n
  have I2:L2.Inv X pins σ H2 {s with heap:=h'.push (kla_obj "<lambda>" lS params body scope [] ((mg "__name__").getD .none) c xc),toks:=tk}:=by
   refine I.un ⟨λb o e n _ _=>kp b o (VB b n) e,λb o e n _ _=>⟨o.slots,kp b o (VB b n) e⟩,λb o e n _=>?_,λb o e _=>?_,λb xs e=>old _ _ e (cF e IJ (by intro z;cases z)),λb o u e=>old _ _ e (cF e IJ (by intro z;cases z)),λb ps e=>?_⟩ λb u e=>?_
   ·have lb:=aM e
    rw[ot b (VB b n) (a0 (bA lb UM)) (a0 (Nat.lt_trans (bA lb UM) lT))];exact n
   ·by_cases hb:b=T.oW
    ·subst hb;exact⟨_,up _ _ Td⟩
    ·exact⟨o,kp b o hb e⟩
   ·by_cases hb:b=T.oW
    ·subst hb
     rw[IJ]at e;cases e;exact⟨#[rawInt gq.line,rawInt gq.col,.ref c],e1⟩
    ·exact⟨#[],by rw[old b _ e hb];simp⟩
   ·by_cases h1:b=h'.objs.size
    ·subst h1;rw[e3]at e;cases e;exact sG eF
    by_cases h2:b=c
    ·subst h2;rw[e2]at e;cases e;exact EJ ⟨b,oc,vs,tq,rfl,up _ _ r1,r2,r3⟩
    by_cases h3:b=T.oW
    ·subst h3;rw[e1]at e;cases e;exact up _ _ Td
    rw[ot b h3 h2 h1]at e;refine(I.dy b u e).tJ (λd v hd g=>kp d v ?_ g) (λd g=>old _ _ g (cF g IJ (by intro z;cases z))) λd xs g=>old _ _ g (cF g IJ (by intro z;cases z))
    rcases hd with z|z
    ·rw[z];exact h3
    ·exact cF z IJ (by intro z;cases z)
  exact q _ H2 _ I2 (λb o e n=>old b o e n) (.inr ⟨c,e1,e2,cfi⟩) ⟨c,_,xc,e3,e2⟩
 ·rw[IJ]at ht
  cases ht;have WI:codeAmong gq (#[rawInt gq.line,rawInt gq.col,Value.ref c]:Array Value).toList=some (.ref c):=by simp[codeAmong,rawInt]
  refine kla_makeFunctionHit (mg:=mg) F9 I.ok.glob hg Hh C oT trivial WI hB λxc h' tk hk hsz=>?_
  have nf:H h'.objs.size=none:=I.dy.fresh hsz;have eF:(h'.push (kla_obj "<lambda>" lS params body scope [] ((mg "__name__").getD .none) c xc)).get? h'.objs.size=some (kla_obj "<lambda>" lS params body scope [] ((mg "__name__").getD .none) c xc):=aO _ rfl
  have I2:=I.laid (t':=tk) (a:=h'.objs.size) (o:=oO h'.objs.size (kla_obj "<lambda>" lS params body scope [] ((mg "__name__").getD .none) c xc)) (λb o e=>ak _ (hk b o e)) hsz (sG eF)
  have sm:=aS.new (o:=oO h'.objs.size (kla_obj "<lambda>" lS params body scope [] ((mg "__name__").getD .none) c xc)) nf
  exact q _ _ _ I2 (λb o e _=>sm b o e) (.inr ⟨c,sm _ _ IJ,sm _ _ hc,hcf⟩) ⟨c,_,xc,ai,sm _ _ hc⟩
def keyOf(d:Deed):KD:=(Vbptae.shown d.day,(d.num:Int))
theorem IE{a b:Deed}(ha:VN a.day)(hb:VN b.day)(na:a.num<=999)(nb:b.num<=999):klt (keyOf a) (keyOf b)=decide (((a.day:Int)*1000+a.num)<(b.day:Int)*1000+b.num):=by
 unfold klt keyOf;dsimp only
 by_cases h:Vbptae.shown a.day=Vbptae.shown b.day
 ·have e:=mM ha hb h
  rw[az h];exact dP.mpr (by omega)
 ·rw[aw h,eY ha hb]
  have ne:a.day≠b.day:=λe=>h (by rw[e])
  exact dP.mpr (by omega)
def Pg(T:Tx K mg base)(ta:TA):TE:=λσ H Q=>ta σ H λvs H1=>∃(l:Addr)(z:Ad)(ds:List Deed)(fi:Addr),vs=[.ref l]/\H1 l=some (.lst (ds.map λd=>V.ref (z.da d.num)))/\(∀d∈ds,vU T.Deed.C H1 (z.da d.num) d/\VN d.day/\d.num<=999)/\ds.Pairwise (λa b=>a.num≠b.num)/\ds.length<=40/\iC gq T.oW fi H1/\(∃o,H1 fi=some o)/\
 ∀(H':Hp)(p:Addr)(TY:List Deed),TY.Perm ds->TY.Pairwise Pb.m7->Ko T.oW H1 H'->iC gq T.oW fi H'->H' p=some (.lst (TY.map λd=>V.ref (z.da d.num)))->Q (.ref p) H'
theorem FO(T:Tx K mg base){X:Cx}{e:Expr}{ta:TA}{params:Arguments}{body:Expr}{scope:Scope}{p kp pos lp:Pos}(hr:gV 3 X.A)(hg:Gl X "sorted")(ha:PA X [e] ta)(hK:X.K=K)(QP:X.mg=mg)(hB:X.base=base)(Hh:X.env.code=.ref T.dc)(hq:X.env.qual++ "<lambda>"=lS)
  (QU:defaultsOf params X.env=([],[]))(F9:closureFor scope X.env=pure [])(Wu:lp=gq)(S:a9 ["deed"] ["deed"] scope)
  (Lh:∀(pm:Value)(c:Addr)(xc u:Value),bindArgs (kla_fn "<lambda>" lS params body scope [] pm (.ref c) xc) ⟨[u],[]⟩=pure ((["deed"]:List Str).zip [u]))
  (p7:∀(c:Addr)(A:Around)(outer:List Env)(s:Shared)(H:Hp)(E:XK)(f:Addr),PE (zh Bu X.prog X.w X.K X.mg X.base ["deed"] lS scope f (.ref c) A outer s H E) body (RY (GN (Mz K (JX 0) "date") (GN (Mz K (JX 0) "number") Mx))))
  (Em:backTo pos (starEach [e] X.env)=(false,eval e X.env)::backTo pos (starEach [] X.env):=by rfl) (vC:(backTo pos (starEach [e] X.env)).any (·.1)=false:=by rfl):
  PE X (.Call (.Name "sorted" p) [e] [⟨some "key",.Lambda params body scope lp,kp⟩] pos) (Pg T ta):=by
 intro pins s σ H Q I h;refine jK (pT I hg (by rw[QP];exact T.km) boot_sorted ?_);refine callWith_kw (eO (ha pos pins s σ H _ I h) λus s1⟨vs,H1,I1,r1,l,z,ds,fi,ev,hl,QV,Mf,h40,ht,RI,q⟩=>?_) Em vC;subst ev;obtain⟨u,eu,ru⟩:=Vals.one r1;subst eu;cases ru;show wpAny _ _ (evalAll [do let v <-eval (.Lambda params body scope lp) X.env;standAt pos;pure v]) _ _ s1;refine wpAny_evalAll_cons (aa ?_);refine Qq T I1 hK QP hB Hh hq QU F9 Wu ht RI λs2 H2 f I2 ko ht2 Wx=>aa (wpAny_standAt (aj (wpAny_evalAll_nil ?_)))
 show wpAny _ _ (call (.builtin "sorted") [.ref l] [(Str.ofString "key",.ref f)]) _ _ s2;have rH:H2 l=some (.lst (ds.map λd=>V.ref (z.da d.num))):=ko _ _ hl (by obtain⟨ps,e⟩:=j9 ht;exact cF hl e (by intro w;cases w));obtain⟨ps,W9⟩:=j9 ht;have E5:Kp H1 H2:=ko.kp W9 rfl;have NT:(ds.map λd=>V.ref (z.da d.num)).length=ds.length:=ab ..
 refine FE I2 (ks:=ds.map keyOf) (r:=λi=>((ds.map λd=>((d.day:Int)*1000+d.num))[i]?).getD 0) hr.units (cG.of rH) (by rw[ab,NT]) (by rw[NT];omega) (λi j a b hi hj=>?_) (λi j hi hj e=>?_) (λi x k v H' s' hx hk rx I' sm=>?_) λH' D p hp E8 sm eD=>?_
 ·rw[aW]at hi hj
  obtain⟨di,gi,rfl⟩:=bO.mp hi;obtain⟨dj,gj,rfl⟩:=bO.mp hj;have wi:=QV di (aY gi);have wj:=QV dj (aY gj);show klt (keyOf di) (keyOf dj)=decide (((ds.map λd=>((d.day:Int)*1000+d.num))[i]?).getD 0<((ds.map λd=>((d.day:Int)*1000+d.num))[j]?).getD 0)
  rw[aW,gi,aW,gj];exact IE wi.2.1 wj.2.1 wi.2.2 wj.2.2
 ·rw[NT]at hi hj
  have e:((ds.map λd=>((d.day:Int)*1000+d.num))[i]?).getD 0=((ds.map λd=>((d.day:Int)*1000+d.num))[j]?).getD 0:=e
  rw[aW,ae hi,aW,ae hj]at e;have e:((ds[i].day:Int)*1000+ds[i].num)=(ds[j].day:Int)*1000+ds[j].num:=e
  have wi:=(QV ds[i] (bL hi)).2.2
  have wj:=(QV ds[j] (bL hj)).2.2
  have en:ds[i].num=ds[j].num:=by omega
  rw[cD]at Mf;rcases Nat.lt_trichotomy i j with g|g|g
  ·exact absurd en (Mf i j hi hj g)
  ·exact g
  ·exact absurd en.symm (Mf j i hj hi g)
 ·rw[aW]at hx hk
  obtain⟨d,gd,rfl⟩:=bO.mp hx;rw[gd]at hk;have ek:=(bw hk).symm
  subst ek;cases rx;obtain⟨c,pm,xc,l1,l2⟩:=Wx.same sm;have hd2:=((QV d (aY gd)).1.kp E5).kp sm.kp
  obtain⟨dx,dt,bl,R⟩:=hd2;have of:=vA I' l1;have oc:s'.heap.CodeRec (.ref c) lS:=(I'.dy _ _ l2).1
  refine wpAny_call (oS (Nz (k:=0) (N:=["deed"]) (ps:=["deed"]) (vs:=[V.ref (z.da d.num)]) (Q:=λv L8=>∃t,v=.ref t/\aS H' L8/\uR L8 (keyOf d) t) (E:=E0) of oc S hr.in1.in1 I'.Q4.in1.in1 (Lh pm c xc _) rfl (.cons rfl .nil) ⟨_,p7 c _ _ _ _ _ f,?_⟩) λr A0 De=>?_)
  ·refine⟨_,rfl,_,_,_,_,_,rfl,R.ins,T.Deed.cl,T.nV,Hw,_,rfl,_,_,_,_,_,rfl,R.ins,T.Deed.cl,T.pP,Jh,(by show 2<=sizeLine;decide),λt ND=>⟨t,rfl,aS.new ND,dt,ai,(aS.new ND) _ _ R.date⟩⟩
  ·cases r with
   |error e=>exact De.elim
   |ok fl=>
    cases fl with
    |ret u=>
     obtain⟨v,L8,I'',rv,t,rfl,Mc,kt⟩:=I'.after De;cases rv;exact⟨t,L8,rfl,I'',Mc,kt⟩
    |next=>exact False.elim De
    |brk=>exact False.elim De
    |cont=>exact False.elim De
 ·rw[NT]at hp
  have inl:∀i∈p,i<ds.length:=λi hi=>dI.mp (hp.mem_iff.mp hi)
  let dflt:Deed:=⟨0,0,0,0,0,[]⟩
  refine q H' D (p.map λi=>ds.getD i dflt) ?_ ?_ (λb o e n=>sm _ _ (ko b o e n)) (ht2.same sm) ?_
  ·have e:(List.range ds.length).map (λi=>ds.getD i dflt)=ds:=by
    refine List.ext_getElem (by simp) λi h1 h2=>?_
    simp[h2]
   have q1:=hp.map λi=>ds.getD i dflt
   rw[e]at q1;exact q1
  ·rw[cy]
   refine List.Pairwise.imp_of_mem (λ{i j}hi hj h=>?_) E8;have uU:=inl i hi;have F7:=inl j hj;have h:((ds.map λd=>((d.day:Int)*1000+d.num))[i]?).getD 0<((ds.map λd=>((d.day:Int)*1000+d.num))[j]?).getD 0:=h
   rw[aW,ae uU,aW,ae F7]at h;have h:((ds[i].day:Int)*1000+ds[i].num)<(ds[j].day:Int)*1000+ds[j].num:=h
   rw[aE,ae uU,aE,ae F7];show Pb.m7 ds[i] ds[j];have wi:=(QV ds[i] (bL uU)).2.2
   have wj:=(QV ds[j] (bL F7)).2.2
   unfold Pb.m7;omega
  ·rw[eD,bC]
   congr 2;refine gb λi hi=>?_
   have uU:=inl i hi;show(ds.map λd=>V.ref (z.da d.num)).getD i .fL=V.ref (z.da (ds.getD i dflt).num)
   rw[aE,aW,ae uU,aE,ae uU];rfl
end
end Pr
namespace Pr
open PySem PySem.Spec PyProof.Rows L2 Vbptae PbP
section
variable{P:Program}{w:World}{K:c9}{mg:jB}{base:Heap}
theorem XW{x qual:Str}{st:Stmt}{f:Addr}{fd:FuncData}{N ps:List Str}{k:Nat}{sp:Sp}(F:O2 K x qual st f fd)(S:a9 N ps (aL st))(len:∀vs H Q E,sp vs H Q E->vs.length=ps.length)
  (p7:∀(A:Around)(outer:List Env)(s:Shared)(H:Hp)(vs:List V)(Q:VK)(E:XK),gV k (A.deeper (envOfC qual (aL st) s.heap.objs.size f fd.code))->sp vs H Q E->∃t,GB (zh Bu P w K mg base N qual (aL st) f fd.code A outer s H E).Ql (iW st) t/\t {nx:=λ_ H'=>Q .fL H',rt:=Q} (start N vs) H):lN P w K mg base Bu (k+1) f fd ps sp:=by
 obtain⟨oc,od,kV,doc,pm,an,mq,ct,G3,rfl,lk,Ga⟩:=F.ex;refine OP lk Ga S len λA outer s H vs Q E hr OF=>?_
 obtain⟨t,h,q⟩:=p7 A outer s H vs Q E hr OF;exact⟨t,h.Ql,q⟩
def U0(z:Ad)(ds:List Deed):List V:=ds.map λd=>V.ref (z.da d.num)
def ML(T:Tx K mg base):Sp:=λvs H Q _=>∃(z:Ad)(s:State)(L:List Paper)(M:List Deed)(p:Paper)(d:Addr)(t:Nat),vs=[.ref z.b,.ref (z.pa p.num),.ref d]/\QX T z s L M H/\p∈L/\c8 K H d (dv t)/\VN t/\
 ∀H' l ds,Kp H H'->QX T z s L M H'->H' l=some (.lst (U0 z ds))->ds.Pairwise Pb.m7->(∀d,d∈ds↔d∈s.deeds/\d.paper=p.num/\d.day<=t)->Q (.ref l) H'
theorem yB(T:Tx K mg base):lN P w K mg base Bu 5 T.hZ.f T.hZ.fd ["book","paper","day"] (ML T):=by
 have nd:=pf.nd;refine XW T.hZ.F pf (λvs H Q E h=>?_) (λA outer s0 H vs Q E hr h=>?_)
 ·obtain⟨z,s,L,M,p,d,t,rfl,B,hp,hd,vt,k⟩:=h;rfl
 obtain⟨z,s,L,M,p,d,t,rfl,B,hp,hd,vt,k⟩:=h;have hu:=ft hr;refine⟨_,(af (yn (i:=3) rfl nd rfl rfl (Bx rfl rfl rfl (by decide +kernel)) (i7 (aF (pv 0) rfl)) (fI (N:=["book","paper","day","deeds","deed"]) (sc:=aL j1) (own:=[("deed",4)]) (by decide +kernel)) (λ_ _ _ _ _=>(gl 4 nd)) (λ_ _ _ _ _=>(xw (PW.pt (nL (bB eA (gf (K:=K) rfl (pv 4) rfl) (gf (K:=K) rfl (pv 1) rfl) (bK _)) (kP (bB (B8 (K:=K) rfl hr.ji) (gf (K:=K) rfl (pv 4) rfl) (pv 2) (bK _))))))) (λ_ _ _ _ _=>(pv 4)))
   (au (aH (FO T (hr.mono (by decide)) rfl (av 3 ah) rfl rfl rfl T.OS rfl rfl rfl rfl g9 (λ_ _ _ _=>rfl) (λ_ _ _ _ _ _ _=>(nO (ag (gf (K:=K) rfl (pv 0) rfl) (ag (gf (K:=K) rfl (pv 0) rfl) ah)))))))),?_⟩
 obtain⟨dx,dt,bl,nm,wd,pu,R⟩:=B.paper p hp;obtain⟨o,fD⟩:=B.fD;have m40:M.length<=40:=by rw[B.iB.length_eq];exact B.wf.dl
 have dw:∀e∈M,_:=λe he=>B.wf.dw e (B.iB.mem_iff.mp he)
 refine⟨_,rfl,_,_,_,_,_,rfl,B.ins,T.bM.cl,T.gM,qg,z.D,o,_,rfl,fD,λD hD=>Uy (L:=M) hC hD (by omega) (λe=>decide (e.paper=p.num)&&decide (e.day<=t)) (λe=>.ref (z.da e.num)) (λi H' hi s=>pV (s _ _ fD) (by rw[Hq];exact hi)) (λH' s=>by have q:=kh (s _ _ fD);rw[Hq]at q;exact q) (λi e x H3 H4 N1 N0 hi s3 y Qw Qx=>?_) λH3 s3 e3=>?_⟩
 ·obtain⟨rfl,key,hx⟩:=y
  have ex:=NU hi hx;subst ex;have he:e∈M:=aY hi;have B3:=B.same s3;obtain⟨sL,AB,Fb,R'⟩:=B3.uD e he;refine⟨rfl,sU (decide (e.paper=p.num)) (decide (e.day<=t)) (λQ' q'=>?_) (λ_ Q' q'=>?_) (mY (λh2=>?_) (λh2=>Qx _ (aS.refl _) h2))⟩
  ·refine⟨_,rfl,_,_,_,_,_,rfl,R'.ins,T.Deed.cl,T.rB,LL,_,rfl,_,_,_,_,_,rfl,s3 _ _ R.ins,T.Paper.cl,T.bS,df,rfl,_,rfl,?_⟩
   rw[xa,show decide ((e.paper:Int)=(p.num:Int))=decide (e.paper=p.num)from dP.mpr (by omega)];exact q'
  ·refine⟨_,rfl,_,_,_,_,_,rfl,R'.ins,T.Deed.cl,T.nV,Hw,_,rfl,AB,d,Vbptae.shown e.day,Vbptae.shown t,rfl,rfl,c8.of R'.date,s3.AQ hd,_,rfl,?_⟩
   rw[yQ (eW (dw e he).2.2.2.2.2.2.1) vt]
   exact q'
  ·exact⟨_,rfl,Qw _ (aS.refl _) h2⟩
 ·have B3:=B.same s3
  obtain⟨f,hf⟩:=uz B3.jT;refine⟨_,rfl,D,z,M.filter λe=>decide (e.paper=p.num)&&decide (e.day<=t),z.Fi,rfl,e3,λe he=>?_,?_,bf (bu _ _) m40,B3.tab,⟨_,hf⟩,λH' l TY j7 E8 ko ND el=>?_⟩
  ·have Lf:=(cp.mp he).1
   exact⟨B3.uD e Lf,eW (dw e Lf).2.2.2.2.2.2.1,(dw e Lf).2.1⟩
  ·have pwM:M.Pairwise (λa b=>a.num≠b.num):=by
    refine(List.Perm.pairwise_iff (λ{a b}h e=>h e.symm) B.iB).mpr B.wf.dn
   exact pwM.filter _
  ·obtain⟨ps,W9⟩:=j9 B3.tab
   refine k H' l TY (s3.kp.trans (ko.kp W9 rfl)) (B3.Sl ko ND) el E8 λe=>?_
   rw[j7.mem_iff,cp,B.iB.mem_iff];simp
theorem iS{b:Box}{bs:List Box}:decide (Vbptae.ints b∈bs.map Vbptae.ints)=bs.contains b:=by
 rw[bz,bj,yK];simp
def J5(T:Tx K mg base):Sp:=λvs H Q _=>∃(z:Ad)(s:State)(L:List Paper)(M:List Deed)(p:Paper)(c d:Addr)(b:Box)(t:Nat),vs=[.ref z.b,.ref (z.pa p.num),.ref c,.ref d]/\QX T z s L M H/\p∈L/\c8 K H c (bv b)/\c8 K H d (dv t)/\VN t/\
 ∀H',Kp H H'->QX T z s L M H'->Q (.int (holder s p b t:Nat)) H'
theorem ug(T:Tx K mg base):Ok P w base 6 T.qw (J5 T):=by
 have nd:=tP.nd;refine T.qw.ok tP λH vs Q E hr h=>?_
 obtain⟨z,s,L,M,p,c,d,b,t,rfl,B,hp,hc,hd,vt,k⟩:=h;have hu:=ft hr;refine⟨_,(af (sl 4 nd (aF (pv 1) rfl))
   (af (lG cX rfl (iq (pc T.hZ (yB T) hr (av 0 (av 1 (av 3 ah))))) (gl 5 nd) (au (bt (PW.pt (nL (bB (FT hu) (pv 2) (aF (pv 5) rfl) (by with_unfolding_all rfl)) (kP (bB eA (aF (pv 5) rfl) (pv 4) (bK _))))) (au (sl 4 nd (aF (pv 5) rfl))) aQ)))
   (au (aH (pv 4))))),?_⟩
 obtain⟨dx,dt,bl,nm,wd,pu,R⟩:=B.paper p hp;refine⟨_,rfl,_,_,_,_,_,rfl,R.ins,T.Paper.cl,T.fm,pL,?_⟩;refine⟨_,rfl,_,rfl,_,rfl,z,s,L,M,p,d,t,rfl,B,hp,hd,vt,λH1 l ds kp1 B1 hl hds gv=>?_⟩;have sub:∀d∈ds,d∈M:=λd h=>B.iB.mem_iff.mpr ((gv d).mp h).1
 refine⟨l,rfl,⟨_,cG.of hl⟩,mH (n:=ds.length) (λi σ H'=>Kp H1 H'/\QX T z s L M H'/\∃v5:Option V,σ=[some (.ref z.b),some (.ref (z.pa p.num)),some (.ref c),some (.ref d),some (.int (((ds.take i).foldl (λh d=>if d.boxes.contains b=true/\d.giver=h then d.taker else h) p.who:Nat):Int)),v5]) ⟨Kp.refl _,B1,none,rfl⟩
  (λi σ H' hi h=>jR (cG.of (h.1 _ _ hl rfl)) (by unfold U0;rw[ab];exact hi)) (λσ H' h=>by have q:=gr (cG.of (K:=K) (h.1 _ _ hl rfl));unfold U0 at q;rw[ab]at q;exact q) ?_ ?_⟩
 ·rintro i x σ H2 H3 hi ⟨E5,B2,v5,rfl⟩ y
  obtain⟨rfl,hx⟩:=iz (cG.of (E5 _ _ hl rfl)) y;have he:ds[i]?=some ds[i]:=ae hi;have heM:ds[i]∈M:=sub _ (bL hi);generalize ds[i]=e at he heM;unfold U0 at hx;rw[aW,he]at hx;have ex:=(bw hx).symm
  subst ex;obtain⟨sL,AB,Fb,R'⟩:=B2.uD e heM;obtain⟨cs,nt,vF⟩:=R'.boxes;generalize hh:(ds.take i).foldl (λh d=>if d.boxes.contains b=true/\d.giver=h then d.taker else h) p.who=h
  dsimp only[m5];refine oQ ?_;refine sU (e.boxes.contains b) (decide (e.giver=h)) (λQ' q=>?_) (λ_ Q' q=>?_) ?_
  ·refine⟨_,rfl,_,rfl,_,_,_,_,_,rfl,R'.ins,T.Deed.cl,T.rD,LN,Fb,c,cs,Vbptae.ints b,e.boxes.map Vbptae.ints,rfl,rfl,cG.of nt,(kp1.trans E5).kl.AQ hc,vF.lB,_,rfl,?_⟩
   rw[aw aK,iS];exact q
  ·refine⟨_,rfl,_,_,_,_,_,rfl,R'.ins,T.Deed.cl,T.rC,LM,_,rfl,rfl,_,rfl,?_⟩
   rw[xa,show decide ((e.giver:Int)=(h:Int))=decide (e.giver=h)from dP.mpr (by omega)];exact q
  ·have fin:∀h',h'=(if e.boxes.contains b=true/\e.giver=h then e.taker else h)->Kp H1 H3/\QX T z s L M H3/\∃v5':Option V,[some (V.ref z.b),some (.ref (z.pa p.num)),some (.ref c),some (.ref d),some (.int (h':Nat)),some (.ref (z.da e.num))]=[some (.ref z.b),some (.ref (z.pa p.num)),some (.ref c),some (.ref d),some (.int (((ds.take (i+1)).foldl (λh d=>if d.boxes.contains b=true/\d.giver=h then d.taker else h) p.who:Nat):Int)),v5']:=λh' e'=>⟨E5,B2,some (.ref (z.da e.num)),by rw[take_snoc he,List.foldl_append,hh,e'];rfl⟩
   refine mY (λh1=>?_) (λh1=>?_)
   ·refine⟨_,rfl,_,_,_,_,_,rfl,R'.ins,T.Deed.cl,T.rA,LK,?_⟩
    refine fin e.taker ?_;rw[a6,bj]at h1;rw[az h1]
   ·refine fin h ?_
    rw[aw];rintro⟨g1,g2⟩;rw[g1,aJ g2]at h1;cases h1
 ·rintro σ H2 ⟨E5,B2,v5,rfl⟩
  refine⟨_,rfl,?_⟩;rw[cM,<-Pb.IP B.wf hds gv];exact k H2 (kp1.trans E5) B2
theorem JR{s:State}(W:Pb.Wf s){p:Paper}(hp:Pb.qm p.day):VN (limit s p):=by
 obtain⟨v1,v2⟩:=Dl hp;obtain⟨j,hj,_,_,hl⟩:=Pb.yN s W.rl W.cl p;have:=XE;rw[hl];exact Fp v1 j (by omega)
def Sh(T:Tx K mg base):Sp:=λvs H Q _=>∃(z:Ad)(s:State)(L:List Paper)(M:List Deed)(p q:Paper)(a nd c:Addr)(b:Box),vs=[.ref z.b,.ref a,.ref (z.pa q.num),.ref c]/\QX T z s L M H/\dZ T.Paper.C H a nd p/\VN p.day/\q∈L/\c8 K H c (bv b)/\
 ∀H',Kp H H'->QX T z s L M H'->Q (.int (why s p q b:Nat)) H'
theorem uh(T:Tx K mg base):Ok P w base 7 T.qx (Sh T):=by
 refine T.qx.ok BE λH vs Q E hr h=>?_
 obtain⟨z,s,L,M,p,q,a,uj,c,b,rfl,B,hp,vp,hq,hc,k⟩:=h;have hu:=ft hr;refine⟨_,(af (bt (cS (cH hu (aF (pv 2) rfl) (aF (pv 1) rfl))) (au (aH (bX rfl T.EL))) aQ)
   (af (bt (bB (vg hu) (pv 3) (aF (pv 2) rfl) (by with_unfolding_all rfl)) (au (aH (bX rfl T.xf))) aQ)
   (af (bt (bB (B9 (K:=K) rfl hr.ji) (aF (pv 1) rfl) (pc T.uo (wG T) hr (av 0 (av 2 ah))) (bK _)) (au (aH (bX rfl T.Gu))) aQ)
   (af (bt (cZ (cR (pc T.uv (wH T) hr (av 0 (av 2 (av 3 ah)))))) (au (aH (bX rfl T.EM))) aQ)
   (af (bt (bB DS (pc T.qw (ug T) hr (av 0 (av 2 (av 3 (ag (aF (pv 1) rfl) ah))))) (aF (pv 1) rfl) (bK _)) (au (aH (bX rfl T.Gv))) aQ)
   (au (aH (bX rfl T.Hy)))))))),?_⟩
 obtain⟨dx,dt,bl,nm,wd,pu,R⟩:=hp;obtain⟨sL,AB,Fb,Oz,Mq,M9,R'⟩:=B.paper q hq;obtain⟨cs,nt,vF⟩:=R'.boxes;have out:∀(n:Nat)H',why s p q b=n->Kp H H'->QX T z s L M H'->Q (.int (n:Nat)) H':=λn H' e k1 B1=>by have q:=k H' k1 B1;rw[e]at q;exact q
 refine⟨_,rfl,_,_,_,_,_,rfl,R'.ins,T.Paper.cl,T.bS,df,_,rfl,_,_,_,_,_,rfl,R.ins,T.Paper.cl,T.cq,fE,uj,_,rfl,eG.k (k:=Sum.inl (q.num:Int)) R.named,_,rfl,?_⟩;rw[mX R.perm];refine kK (λh1=>?_) (λh1=>?_)
 ·exact out 1 H (by unfold why;rw[az h1]) (Kp.refl _) B
 refine⟨_,rfl,_,rfl,_,_,_,_,_,rfl,R'.ins,T.Paper.cl,T.cC,fS,Fb,c,cs,Vbptae.ints b,q.boxes.map Vbptae.ints,rfl,rfl,cG.of nt,hc,vF.lB,_,rfl,?_⟩;rw[az rfl,iS];refine kK (λh2=>?_) (λh2=>?_)
 ·exact out 2 H (by unfold why;rw[aw (by rw[h1];decide),az h2]) (Kp.refl _) B
 refine⟨_,rfl,_,_,_,_,_,rfl,R.ins,T.Paper.cl,T.bG,dN,_,rfl,_,rfl,z,s,L,M,q,rfl,B,hq,λH1 a1 k1 B1 e1=>?_⟩;refine⟨dt,a1,Vbptae.shown p.day,Vbptae.shown (limit s q),rfl,rfl,c8.of (k1 _ _ R.date rfl),c8.of e1,_,rfl,?_⟩;rw[eY (JR B.wf (B.vn hq)) vp];refine jb (λh3=>?_) (λh3=>?_)
 ·exact out 3 H1 (by unfold why;rw[aw (by rw[h1];decide),aw (by rw[h2];decide),az h3]) k1 B1
 have hb:b∈q.boxes:=by simpa using h2
 refine⟨_,rfl,_,rfl,_,rfl,z,s,L,M,q,c,b,rfl,B1,hq,hb,k1.kl.AQ hc,λH2 k2 B2=>⟨_,rfl,kK (λh4=>?_) (λh4=>?_)⟩⟩
 ·exact out 4 H2 (by unfold why;rw[aw (by rw[h1];decide),aw (by rw[h2];decide),aw h3,az h4]) (k1.trans k2) B2
 have UA:=k1.trans k2;refine⟨_,rfl,_,rfl,_,rfl,_,rfl,_,_,_,_,_,rfl,UA _ _ R.ins rfl,T.Paper.cl,T.bG,dN,z,s,L,M,q,c,dt,b,p.day,rfl,B2,hq,UA.kl.AQ hc,c8.of (UA _ _ R.date rfl),vp,λH3 k3 B3=>?_⟩;have VU:=UA.trans k3;refine⟨_,rfl,_,_,_,_,_,rfl,VU _ _ R.ins rfl,T.Paper.cl,T.fm,pL,rfl,_,rfl,Ek (λh5=>?_) (λh5=>?_)⟩
 ·exact out 5 H3 (by unfold why;rw[aw (by rw[h1];decide),aw (by rw[h2];decide),aw h3,aw (by rw[h4];decide),az (by omega)]) VU B3
 ·exact out 0 H3 (by unfold why;rw[aw (by rw[h1];decide),aw (by rw[h2];decide),aw h3,aw (by rw[h4];decide),aw (by omega)]) VU B3
theorem eG.rd{H:Hp}{a:Addr}{bJ:List (Key×V)}{k:Key}(e:Rd H a (.dK bJ)):eG H a (kV k) (fB bJ k):=.inl ⟨bJ,k,e,rfl,rfl⟩
def Pw(T:Tx K mg base):Sp:=λvs H Q _=>∃(z:Ad)(s:State)(L:List Paper)(M:List Deed)(p:Paper)(a nd:Addr),vs=[.ref z.b,.ref a]/\QX T z s L M H/\dZ T.Paper.C H a nd p/\(p.parent=0\/(p∈L/\a=z.pa p.num))/\
 ∀a' uj,dZ T.Paper.C H a' uj (root s PAPERS p)->(root s PAPERS p).parent=0->(root s PAPERS p∈L\/root s PAPERS p=p)->Q (.ref a') H
theorem yz(T:Tx K mg base):Ok P w base 1 T.xu (Pw T):=by
 have nd:=ya.nd;refine T.xu.ok ya λH vs Q E hr h=>?_
 obtain⟨z,s,L,M,p,a,uj,rfl,B,hp,hh,k⟩:=h;have hu:=ft hr;refine⟨_,(af (sl 2 nd (pv 1))
   (af (ud cX (bB DS (aF (pv 2) rfl) aC (bK _)) (au (sl 2 nd (eJ hu (aF (pv 0) rfl) (aF (pv 2) rfl) (λ_ _=>rfl)))))
   (au (aH (pv 2))))),?_⟩
 refine⟨_,rfl,?_⟩
 by_cases h0:p.parent=0
 ·obtain⟨dx,dt,bl,nm,wd,pu,R⟩:=id hp
  refine⟨λm σ H'=>H'=H/\σ=[some (.ref z.b),some (.ref a),some (.ref a)],⟨0,rfl,rfl⟩,?_⟩;rintro m σ H' ⟨rfl,rfl⟩;refine⟨_,rfl,_,_,_,_,_,rfl,R.ins,T.Paper.cl,T.de,ir,rfl,_,rfl,Ek (λh1=>absurd h0 (by omega)) (λh1=>?_)⟩;refine⟨_,rfl,?_⟩;have e:=Pb.pB (s:=s) h0;exact k a uj (by rw[e];exact hp) (by rw[e];exact h0) (.inr e)
 ·obtain⟨hL,rfl⟩:=hh.resolve_left h0
  obtain⟨i,hi,ei⟩:=a8.mp hL;refine⟨λm σ H'=>H'=H/\∃r,L[m]?=some r/\root s PAPERS r=root s PAPERS p/\σ=[some (.ref z.b),some (.ref (z.pa p.num)),some (.ref (z.pa r.num))],⟨i,rfl,p,by rw[ae hi,ei],rfl,rfl⟩,?_⟩;rintro m σ H' ⟨rfl,r,hr,er,rfl⟩;have Dd:=aY hr;obtain⟨dx,dt,bl,nm,wd,pu,R⟩:=B.paper r Dd;refine⟨_,rfl,_,_,_,_,_,rfl,R.ins,T.Paper.cl,T.de,ir,rfl,_,rfl,Ek (λh1=>?_) (λh1=>?_)⟩
  ·have h1:r.parent≠0:=by omega
   obtain⟨j,q,hj,hq,en⟩:=B.par m r hr h1;have IM:=aY hq;refine⟨λgO L8=>L8=H'/\gO=[some (.ref z.b),some (.ref (z.pa p.num)),some (.ref (z.pa q.num))],?_,?_⟩
   ·rintro gO L8 ⟨rfl,rfl⟩
    refine⟨j,hj,rfl,q,hq,?_,rfl⟩;rw[<-er];exact(Pb.Ic B.wf.ps (λp hp=>B.mem.mp hp) B.par B.uq hr hj hq en h1).symm
   ·have g:eG H' z.P (.int (r.parent:Nat)) (some (V.ref (z.pa q.num))):=by
     have q1:=eG.rd (k:=Sum.inl (r.parent:Int)) B.papers;rw[<-en,B.at_ IM]at q1;rw[<-en];exact q1
    exact⟨_,rfl,_,_,_,_,_,rfl,B.ins,T.bM.cl,T.aI,bc,_,rfl,_,_,_,_,_,rfl,R.ins,T.Paper.cl,T.de,ir,z.P,_,rfl,g,rfl,rfl⟩
  ·refine⟨_,rfl,?_⟩
   have h1:r.parent=0:=(by omega);have e:=Pb.pB (s:=s) h1;rw[er]at e;exact k _ (z.nd r.num) (by rw[e];exact B.paper r Dd) (by rw[e];exact h1) (.inl (by rw[e];exact Dd))
def qJ(s:State)(z:Ad)(L:List Paper)(p:Paper)(a:Addr):Prop:=(p∈L/\a=z.pa p.num)\/(p.parent=0/\p.names.Pairwise (· < ·)/\(∀n∈p.names,∃q∈s.papers,q.num=n)/\p.names.length<=24/\VN p.day)
theorem qJ.root{T:Tx K mg base}{z:Ad}{s:State}{L:List Paper}{M:List Deed}{H:Hp}(B:QX T z s L M H){p:Paper}{a:Addr}(h:qJ s z L p a)(hr:root s PAPERS p∈L\/root s PAPERS p=p)(h0:(root s PAPERS p).parent=0):
  (root s PAPERS p).names.Pairwise (· < ·)/\(∀n∈(root s PAPERS p).names,∃q∈s.papers,q.num=n)/\(root s PAPERS p).names.length<=24/\VN (root s PAPERS p).day:=by
 have OE:∀r∈L,r.names.Pairwise (· < ·)/\(∀n∈r.names,∃q∈s.papers,q.num=n)/\r.names.length<=24/\VN r.day:=λr hr=>by
  have w:=B.pw hr;exact⟨w.nm,w.ne,bf w.nl (by decide),eW w.day⟩
 rcases hr with hr|hr
 ·exact OE _ hr
 ·rw[hr]
  rcases h with⟨h,_⟩|⟨_,h⟩
  ·exact OE p h
  ·exact h
def MN(T:Tx K mg base):Sp:=λvs H Q _=>∃(z:Ad)(s:State)(L:List Paper)(M:List Deed)(p:Paper)(a nd c:Addr)(b:Box),vs=[.ref z.b,.ref a,.ref c]/\QX T z s L M H/\dZ T.Paper.C H a nd p/\qJ s z L p a/\c8 K H c (bv b)/\
 ∀H' t dt,Kp H H'->QX T z s L M H'->H' t=some (.tup [.ref dt,.int ((dayIn s p b).2:Nat)])->H' dt=some (.tup (dv (dayIn s p b).1))->VN (dayIn s p b).1->Q (.ref t) H'
theorem kN{a b:List Int}(p:a.Perm b)(h1:a.Pairwise (· <= ·))(h2:b.Pairwise (· < ·)):a=b:=by
 refine List.Perm.eq_of_pairwise (le:=(· <= ·)) (λx y _ _ h1 h2=>Int.le_antisymm h1 h2) h1 (h2.imp λh=>Int.le_of_lt h) p
theorem xE{l:List Nat}(h:l.Pairwise (· < ·)):(Vbptae.ints l).Pairwise (· < ·):=by
 unfold Vbptae.ints;rw[cy];exact h.imp λh=>by omega
theorem Ag{s:State}{ns:List Nat}{i n:Nat}{q:Paper}(h:ns[i]?=some n)(hq:Vbptae.paper s n=some q):Pb.gk s (ns.take (i+1))=Pb.gk s (ns.take i)++ [q]:=by
 unfold Pb.gk;rw[take_snoc h,List.filterMap_append,iG,hq];rfl
theorem mW(T:Tx K mg base):Ok P w base 8 T.sP (MN T):=by
 have nd:=AU.nd;refine T.sP.ok AU λH vs Q E hr h=>?_
 obtain⟨z,s,L,M,p,a,uj,c,b,rfl,B,hp,ha,hc,k⟩:=h;have hu:=ft hr;refine⟨_,(af (sl 3 nd (pc T.xu (yz T) hr (av 0 (av 1 ah))))
   (af (sl 4 nd (aF (pv 3) rfl))
   (af (sl 5 nd (aF (pv 3) rfl))
   (af (lG cX rfl (iq (bQ (sQ rfl) (by rfl) T.km boot_sorted (ag (aF (pv 3) rfl) ah))) (gl 6 nd) (af (sl 7 nd (eJ hu (aF (pv 0) rfl) (pv 6) (λ_ _=>rfl)))
   (au (bt (PW.pt (nL (bB (mf (K:=K) rfl hr.ji) (aF (pv 7) rfl) (pv 4) (bK _)) (kP (bB eA (pc T.qx (uh T) hr (av 0 (av 3 (av 7 (av 2 ah))))) (bX rfl T.Hy) (bK _))))) (af (sl 4 nd (aF (pv 7) rfl))
   (au (sl 5 nd (pv 6)))) aQ))))
   (au (aH (nO (av 4 (av 5 ah))))))))),?_⟩
 refine⟨_,rfl,_,rfl,z,s,L,M,p,a,uj,rfl,B,hp,ha.elim (λh=>.inr h) (λh=>.inl h.1),λa' OC hr h0 QM=>?_⟩;obtain⟨n1,n2,n3,n4⟩:=ha.root B QM h0;have WQ:dayIn s p b=earliest s (root s PAPERS p) b:=rfl;rw[WQ,Pb.zd B.wf.ps n1]at k;generalize root s PAPERS p=r at hr h0 QM n1 n2 n3 n4 k;obtain⟨dx,dt,bl,nm,wd,pu,R⟩:=hr;refine⟨_,rfl,_,_,_,_,_,rfl,R.ins,T.Paper.cl,T.bG,dN,?_⟩;refine⟨_,rfl,_,_,_,_,_,rfl,R.ins,T.Paper.cl,T.bS,df,?_⟩;refine⟨_,rfl,_,_,_,_,_,rfl,R.ins,T.Paper.cl,T.cq,fE,OC,fF nm,Vbptae.ints nm,rfl,.inl R.named,(by unfold fF Vbptae.ints;rw[bC,bC];rfl),(by unfold Vbptae.ints;rw[ab,R.perm.length_eq];omega),λjf l Me hle hl=>?_⟩;have Q5:jf=Vbptae.ints r.names:=kN (Me.trans (by unfold Vbptae.ints;exact R.perm.map _)) hle (xE n1);subst Q5;have s1:aS H (upd H l (.lst ((Vbptae.ints r.names).map V.int))):=aS.new hl
 generalize QZ:upd H l (.lst ((Vbptae.ints r.names).map V.int))=H1 at s1
 have el:H1 l=some (.lst ((Vbptae.ints r.names).map V.int)):=by rw[<-QZ];exact ai
 have len:((Vbptae.ints r.names).map V.int).length=r.names.length:=by unfold Vbptae.ints;rw[ab,ab]
 refine⟨l,rfl,⟨_,cG.of el⟩,mH (n:=r.names.length) (λi σ H'=>∃(da:Addr)(v6 v7:Option V),Kp H1 H'/\QX T z s L M H'/\H' da=some (.tup (dv ((Pb.gk s (r.names.take i)).foldl (Pb.fQ s r b) (r.day,r.num)).1))/\VN ((Pb.gk s (r.names.take i)).foldl (Pb.fQ s r b) (r.day,r.num)).1/\
  σ=[some (.ref z.b),some (.ref a),some (.ref c),some (.ref a'),some (.ref da),some (.int (((Pb.gk s (r.names.take i)).foldl (Pb.fQ s r b) (r.day,r.num)).2:Nat)),v6,v7])
  ⟨dt,none,none,Kp.refl _,B.same s1,s1 _ _ R.date,n4,rfl⟩ (λi σ H' hi⟨_,_,_,h,_⟩=>jR (cG.of (h _ _ el rfl)) (by rw[len];exact hi)) (λσ H'⟨_,_,_,h,_⟩=>by have q:=gr (cG.of (K:=K) (h _ _ el rfl));rw[len]at q;exact q) ?_ ?_⟩
 ·rintro i x σ H2 H3 hi ⟨da,v6,v7,E5,B2,NL,O8,rfl⟩ y
  obtain⟨rfl,hx⟩:=iz (cG.of (E5 _ _ el rfl)) y;have hn:r.names[i]?=some r.names[i]:=ae hi;have hnm:r.names[i]∈r.names:=bL hi;generalize r.names[i]=n at hn hnm;obtain⟨q,hq,rfl⟩:=n2 n hnm;have IM:=B.mem.mpr hq;have ex:x=.int (q.num:Nat):=by
   unfold Vbptae.ints at hx;rw[bC,aW,hn]at hx;exact(bw hx).symm
  subst ex;rw[Ag hn (Pb.iQ B.wf.ps hq),List.foldl_append];generalize(Pb.gk s (r.names.take i)).foldl (Pb.fQ s r b) (r.day,r.num)=e at NL O8
  have g:eG H3 z.P (.int (q.num:Nat)) (some (V.ref (z.pa q.num))):=by
   have q1:=eG.rd (k:=Sum.inl (q.num:Int)) B2.papers;rw[B2.at_ IM]at q1;exact q1
  obtain⟨sL,AB,Fb,Oz,Mq,M9,R'⟩:=B2.paper q IM;refine⟨_,rfl,_,_,_,_,_,rfl,B2.ins,T.bM.cl,T.aI,bc,_,rfl,z.P,_,rfl,g,?_⟩;dsimp only[m5];refine oQ ?_;refine⟨_,rfl,_,_,_,_,_,rfl,R'.ins,T.Paper.cl,T.bG,dN,_,rfl,AB,da,Vbptae.shown q.day,Vbptae.shown e.1,rfl,rfl,c8.of R'.date,c8.of NL,_,rfl,?_⟩;rw[eY (eW (B.vn IM)) O8];have Rr:∀{H'},Kp H3 H'->dZ T.Paper.C H' a' OC r:=λk'=>dZ.kp ((s1.kp.trans E5).trans k') ⟨dx,dt,bl,nm,wd,pu,R⟩
  refine jb (λh1=>?_) (λh1=>?_)
  ·refine⟨_,rfl,_,rfl,_,rfl,_,rfl,z,s,L,M,r,q,a',OC,c,b,rfl,B2,Rr (Kp.refl _),n4,IM,(s1.kp.trans E5).kl.AQ hc,λH4 k4 B4=>⟨rfl,_,rfl,kg (λh2=>?_) (λh2=>?_)⟩⟩
   ·obtain⟨UY,Q9,U1,Uw,Uh,Ur,R2⟩:=B4.paper q IM
    have es: [q].foldl (Pb.fQ s r b) e=(q.day,q.num):=by
     show Pb.fQ s r b e q=_;unfold Pb.fQ;rw[az ⟨by omega,h1⟩]
    rw[es];refine⟨_,rfl,_,_,_,_,_,rfl,R2.ins,T.Paper.cl,T.bG,dN,?_⟩;refine⟨_,rfl,Q9,some (.int (q.num:Nat)),some (.ref (z.pa q.num)),E5.trans k4,B4,R2.date,eW (B.vn IM),rfl⟩
   ·have es: [q].foldl (Pb.fQ s r b) e=e:=by
     show Pb.fQ s r b e q=_;unfold Pb.fQ;rw[aw (λg=>h2 (by omega))]
    rw[es];exact⟨da,some (.int (q.num:Nat)),some (.ref (z.pa q.num)),E5.trans k4,B4,k4 _ _ NL rfl,O8,rfl⟩
  ·have es: [q].foldl (Pb.fQ s r b) e=e:=by
    show Pb.fQ s r b e q=_;unfold Pb.fQ;rw[aw (λg=>h1 g.2)]
   rw[es];exact iZ ⟨da,some (.int (q.num:Nat)),some (.ref (z.pa q.num)),E5,B2,NL,O8,rfl⟩
 ·rintro σ H2 ⟨da,v6,v7,E5,B2,NL,O8,rfl⟩
  rw[cM]at NL O8;refine⟨_,rfl,_,rfl,(by show 2<=sizeLine;decide),λt ht=>?_⟩;refine k _ t da (s1.kp.trans (E5.trans (aS.new ht).kp)) (B2.same (aS.new ht)) ?_ ((aS.new ht) _ _ NL) O8
  rw[ai,cM]
end
theorem P7{v0 x:V}:bZ ("who":Str) x [("number",v0)]=([("number",v0),("who",x)]:List (Str×V)):=by kernel_rfl
theorem Nk{v0 v1 x:V}:bZ ("date":Str) x [("number",v0),("who",v1)]=([("number",v0),("who",v1),("date",x)]:List (Str×V)):=by kernel_rfl
theorem Kx{v0 v1 v2 x:V}:bZ ("boxes":Str) x [("number",v0),("who",v1),("date",v2)]=([("number",v0),("who",v1),("date",v2),("boxes",x)]:List (Str×V)):=by kernel_rfl
theorem Ip{v0 v1 v2 v3 x:V}:bZ ("parent":Str) x [("number",v0),("who",v1),("date",v2),("boxes",v3)]=([("number",v0),("who",v1),("date",v2),("boxes",v3),("parent",x)]:List (Str×V)):=by kernel_rfl
theorem Kw{v0 v1 v2 v3 v4 x:V}:bZ ("named":Str) x [("number",v0),("who",v1),("date",v2),("boxes",v3),("parent",v4)]=([("number",v0),("who",v1),("date",v2),("boxes",v3),("parent",v4),("named",x)]:List (Str×V)):=by kernel_rfl
theorem BS{v0 v1 v2 v3 v4 v5 x:V}:bZ ("withdrawn":Str) x [("number",v0),("who",v1),("date",v2),("boxes",v3),("parent",v4),("named",v5)]=([("number",v0),("who",v1),("date",v2),("boxes",v3),("parent",v4),("named",v5),("withdrawn",x)]:List (Str×V)):=by kernel_rfl
theorem yw{v0 v1 v2 v3 v4 v5 v6 x:V}:bZ ("rights_left":Str) x [("number",v0),("who",v1),("date",v2),("boxes",v3),("parent",v4),("named",v5),("withdrawn",v6)]=([("number",v0),("who",v1),("date",v2),("boxes",v3),("parent",v4),("named",v5),("withdrawn",v6),("rights_left",x)]:List (Str×V)):=by kernel_rfl
theorem BU{v0 v1 v2 v3 v4 v5 v6 v7 x:V}:bZ ("published":Str) x [("number",v0),("who",v1),("date",v2),("boxes",v3),("parent",v4),("named",v5),("withdrawn",v6),("rights_left",v7)]=([("number",v0),("who",v1),("date",v2),("boxes",v3),("parent",v4),("named",v5),("withdrawn",v6),("rights_left",v7),("published",x)]:List (Str×V)):=by kernel_rfl
theorem LH{v0 x:V}:bZ ("paper":Str) x [("number",v0)]=([("number",v0),("paper",x)]:List (Str×V)):=by kernel_rfl
theorem LJ{v0 v1 x:V}:bZ ("boxes":Str) x [("number",v0),("paper",v1)]=([("number",v0),("paper",v1),("boxes",x)]:List (Str×V)):=by kernel_rfl
theorem LI{v0 v1 v2 x:V}:bZ ("giver":Str) x [("number",v0),("paper",v1),("boxes",v2)]=([("number",v0),("paper",v1),("boxes",v2),("giver",x)]:List (Str×V)):=by kernel_rfl
theorem LG{v0 v1 v2 v3 x:V}:bZ ("taker":Str) x [("number",v0),("paper",v1),("boxes",v2),("giver",v3)]=([("number",v0),("paper",v1),("boxes",v2),("giver",v3),("taker",x)]:List (Str×V)):=by kernel_rfl
theorem NW{v0 v1 v2 v3 v4 x:V}:bZ ("date":Str) x [("number",v0),("paper",v1),("boxes",v2),("giver",v3),("taker",v4)]=([("number",v0),("paper",v1),("boxes",v2),("giver",v3),("taker",v4),("date",x)]:List (Str×V)):=by kernel_rfl
theorem uH{v0 x:V}:bZ ("rest_days":Str) x [("leaves",v0)]=([("leaves",v0),("rest_days",x)]:List (Str×V)):=by kernel_rfl
theorem qf{v0 v1 x:V}:bZ ("closed_days":Str) x [("leaves",v0),("rest_days",v1)]=([("leaves",v0),("rest_days",v1),("closed_days",x)]:List (Str×V)):=by kernel_rfl
theorem Br{v0 v1 v2 x:V}:bZ ("papers":Str) x [("leaves",v0),("rest_days",v1),("closed_days",v2)]=([("leaves",v0),("rest_days",v1),("closed_days",v2),("papers",x)]:List (Str×V)):=by kernel_rfl
theorem EU{v0 v1 v2 v3 x:V}:bZ ("deeds":Str) x [("leaves",v0),("rest_days",v1),("closed_days",v2),("papers",v3)]=([("leaves",v0),("rest_days",v1),("closed_days",v2),("papers",v3),("deeds",x)]:List (Str×V)):=by kernel_rfl
theorem Jq{v0 v1 v2 v3 v4 x:V}:bZ ("limits":Str) x [("leaves",v0),("rest_days",v1),("closed_days",v2),("papers",v3),("deeds",v4)]=([("leaves",v0),("rest_days",v1),("closed_days",v2),("papers",v3),("deeds",v4),("limits",x)]:List (Str×V)):=by kernel_rfl
theorem Jr{v0 v1 v2 v3 v4 v5 x:V}:bZ ("firsts":Str) x [("leaves",v0),("rest_days",v1),("closed_days",v2),("papers",v3),("deeds",v4),("limits",v5)]=([("leaves",v0),("rest_days",v1),("closed_days",v2),("papers",v3),("deeds",v4),("limits",v5),("firsts",x)]:List (Str×V)):=by kernel_rfl
section
variable{P:Program}{w:World}{K:c9}{mg:jB}{base:Heap}
def J2(T:Tx K mg base):Sp:=λvs H Q _=>∃(x dx:Addr)(n w pa:Int)(dt bl:V),vs=[.ref x,.int n,.int w,dt,bl,.int pa]/\H x=some (.ins T.Paper.C dx [])/\
 ∀H' nd,H nd=none->H' x=some (.ins T.Paper.C dx (pF n w dt bl pa (.ref nd) .fL false .fL))->H' nd=some (.dK [])->(∀b o,H b=some o->b≠x->H' b=some o)->Q .fL H'
theorem j4(T:Tx K mg base):lN P w K mg base Bu 1 T.ia.f T.ia.fd ["self","number","who","date","boxes","parent"] (J2 T):=by
 refine T.ia.F.ok Ae (λvs H Q E h=>?_) (λmq A outer s0 H vs Q E hr h=>?_)
 ·obtain⟨x,dx,n,w,pa,dt,bl,rfl,h0,k⟩:=h;rfl
 obtain⟨x,dx,n,w,pa,dt,bl,rfl,h0,k⟩:=h;refine⟨_,(af (eE (pv 0) (pv 1) rfl)
   (af (eE (pv 0) (pv 2) rfl)
   (af (eE (pv 0) (pv 3) rfl)
   (af (eE (pv 0) (pv 4) rfl)
   (af (eE (pv 0) (pv 5) rfl)
   (af (eE (pv 0) yu rfl)
   (af (eE (pv 0) FP rfl)
   (af (eE (pv 0) jo rfl)
   (au (eE (pv 0) FP rfl)))))))))),?_⟩
 refine⟨_,rfl,_,rfl,x,_,dx,_,rfl,h0,T.Paper.cl,T.bS,(by show 0<1000;decide),?_⟩;rw[show bZ ("number":Str) (V.int n) []=([("number",V.int n)]:List (Str×V))from rfl];refine⟨_,rfl,_,rfl,x,_,dx,_,rfl,ai,T.Paper.cl,T.fm,(by show 1<1000;decide),?_⟩;rw[P7];refine⟨_,rfl,_,rfl,x,_,dx,_,rfl,ai,T.Paper.cl,T.bG,(by show 2<1000;decide),?_⟩;rw[Nk];refine⟨_,rfl,_,rfl,x,_,dx,_,rfl,ai,T.Paper.cl,T.cC,(by show 3<1000;decide),?_⟩;rw[Kx];refine⟨_,rfl,_,rfl,x,_,dx,_,rfl,ai,T.Paper.cl,T.de,(by show 4<1000;decide),?_⟩;rw[Ip];intro q hq;have nx:x≠q:=aR ai hq;refine⟨_,rfl,x,_,dx,_,rfl,(by rw[aG nx];exact ai),T.Paper.cl,T.cq,(by show 5<1000;decide),?_⟩;rw[Kw];refine⟨_,rfl,x,_,dx,_,rfl,ai,T.Paper.cl,T.cV,(by show 6<1000;decide),?_⟩;rw[BS];refine⟨_,rfl,x,_,dx,_,rfl,ai,T.Paper.cl,T.fT,(by show 7<1000;decide),?_⟩;rw[yw];refine⟨_,rfl,x,_,dx,_,rfl,ai,T.Paper.cl,T.dE,(by show 8<1000;decide),?_⟩;rw[BU];have JI:H q=none:=by
  have h:=hq;rw[aG nx.symm,aG nx.symm,aG nx.symm,aG nx.symm,aG nx.symm]at h;exact h
 refine k _ q JI ai ?_ λb o e hb=>?_
 ·simp only[aG nx.symm,ai]
 ·have RK:b≠q:=aR e JI
  simp only[aG hb,aG RK];exact e
def MM(T:Tx K mg base):Sp:=λvs H Q _=>∃(x dx:Addr)(n p g t:Int)(bl dt:V),vs=[.ref x,.int n,.int p,bl,.int g,.int t,dt]/\H x=some (.ins T.Deed.C dx [])/\
 ∀H',H' x=some (.ins T.Deed.C dx (dF n p bl g t dt))->(∀b o,H b=some o->b≠x->H' b=some o)->Q .fL H'
theorem Ck(T:Tx K mg base):lN P w K mg base Bu 1 T.ni.f T.ni.fd ["self","number","paper","boxes","giver","taker","date"] (MM T):=by
 refine T.ni.F.ok BH (λvs H Q E h=>?_) (λmq A outer s0 H vs Q E hr h=>?_)
 ·obtain⟨x,dx,n,p,g,t,bl,dt,rfl,h0,k⟩:=h;rfl
 obtain⟨x,dx,n,p,g,t,bl,dt,rfl,h0,k⟩:=h;refine⟨_,(af (eE (pv 0) (pv 1) rfl)
   (af (eE (pv 0) (pv 2) rfl)
   (af (eE (pv 0) (pv 3) rfl)
   (af (eE (pv 0) (pv 4) rfl)
   (af (eE (pv 0) (pv 5) rfl)
   (au (eE (pv 0) (pv 6) rfl))))))),?_⟩
 refine⟨_,rfl,_,rfl,x,_,dx,_,rfl,h0,T.Deed.cl,T.pP,(by show 0<1000;decide),?_⟩;rw[show bZ ("number":Str) (V.int n) []=([("number",V.int n)]:List (Str×V))from rfl];refine⟨_,rfl,_,rfl,x,_,dx,_,rfl,ai,T.Deed.cl,T.rB,(by show 1<1000;decide),?_⟩;rw[LH];refine⟨_,rfl,_,rfl,x,_,dx,_,rfl,ai,T.Deed.cl,T.rD,(by show 2<1000;decide),?_⟩;rw[LJ];refine⟨_,rfl,_,rfl,x,_,dx,_,rfl,ai,T.Deed.cl,T.rC,(by show 3<1000;decide),?_⟩;rw[LI];refine⟨_,rfl,_,rfl,x,_,dx,_,rfl,ai,T.Deed.cl,T.rA,(by show 4<1000;decide),?_⟩;rw[LG];refine⟨_,rfl,_,rfl,x,_,dx,_,rfl,ai,T.Deed.cl,T.nV,(by show 5<1000;decide),?_⟩;rw[NW];refine k _ ai λb o e hb=>?_
 simp only[aG hb];exact e
def bare(p:Paper):Paper:={p with out:=none,shown:=none}
theorem vL(n:Nat):∀nm:List Nat,kL (fF nm) (Sum.inl (n:Int))=fF (nm.filter λx=>x != n)
 | []=>rfl
 |m::nm=>by
  have ih:=vL n nm
  by_cases h:m=n
  ·rw[dQ,aw (by simp[h])]
   show kL (((Sum.inl (m:Int):Key),V.bl true)::fF nm) _=_;rw[Jc (by rw[h]),ih]
  ·rw[dQ,az (by simpa using h)]
   show kL (((Sum.inl (m:Int):Key),V.bl true)::fF nm) _=((Sum.inl (m:Int):Key),V.bl true)::fF _;rw[Jd (λe=>h (by injection e with e;omega)),ih]
theorem KL{nm:List Nat}{n:Nat}(h:fB (fF nm) (Sum.inl (n:Int))=none):nm.filter (λx=>x != n)=nm:=by
 rw[List.filter_eq_self];intro m hm;simp only[bne_iff_ne,ne_eq];rintro rfl;unfold fF at h;rw[kM (f:=λq:Nat=>(Sum.inl (q:Int):Key)) (g:=λ_=>V.bl true) hm λq _ e=>by injection e with e;omega]at h;cases h
def HP(T:Tx K mg base):Sp:=λvs H Q _=>∃(a nd:Addr)(p:Paper)(n:Nat),vs=[.ref a,.int n]/\dZ T.Paper.C H a nd p/\∀H' a' uj,aS H H'->dZ T.Paper.C H' a' uj (bare (Pb.dropName n p))->Q (.ref a') H'
theorem wW(T:Tx K mg base):Ok P w base 3 T.nA (HP T):=by
 have nd:=oB.nd;refine T.nA.ok oB λH vs Q E hr h=>?_
 obtain⟨a,uj,p,n,rfl,hp,k⟩:=h;refine⟨_,(af (sl 2 nd (ue T.um ((j4 T).mono (by decide)) hr rfl T.Paper.mg T.ia.b .nil pK (ag (aF (pv 0) rfl) (ag (aF (pv 0) rfl) (ag (aF (pv 0) rfl) (ag (aF (pv 0) rfl) (ag (aF (pv 0) rfl) ah)))))))
   (af (eE (pv 2) (cu Gs (by rfl) T.Rg boot_dict (ag (aF (pv 0) rfl) ah)) rfl)
   (af (fR (Kr (aF (pv 2) rfl) (pv 1) FP ⟨rfl,rfl,rfl,rfl⟩))
   (au (aH (pv 2)))))),?_⟩
 obtain⟨dx,dt,bl,nm,wd,pu,R⟩:=hp;refine⟨_,rfl,_,_,_,_,_,rfl,R.ins,T.Paper.cl,T.bS,df,_,rfl,_,_,_,_,_,rfl,R.ins,T.Paper.cl,T.fm,pL,_,rfl,_,_,_,_,_,rfl,R.ins,T.Paper.cl,T.bG,dN,_,rfl,_,_,_,_,_,rfl,R.ins,T.Paper.cl,T.cC,fS,_,rfl,_,_,_,_,_,rfl,R.ins,T.Paper.cl,T.de,ir,?_⟩;intro x sL nx zM RC;refine⟨x,sL,p.num,p.who,p.parent,.ref dt,.ref bl,rfl,ai,λH1 Iw e1 e2 e3 e4=>⟨rfl,?_⟩⟩;have s1:aS H H1:=aS.made nx zM e4;refine⟨_,rfl,_,_,_,_,_,rfl,s1 _ _ R.ins,T.Paper.cl,T.cq,fE,uj,fF nm,rfl,.inl (s1 _ _ R.named),λq hq=>?_⟩;have xq:x≠q:=aR e2 hq;refine⟨_,rfl,x,_,sL,_,rfl,(by rw[aG xq];exact e2),T.Paper.cl,T.cq,(by show 9<1000;decide),?_⟩;rw[BV];have Wh:(upd (upd H1 q (.dK (fF nm))) x (.ins T.Paper.C sL (pF p.num p.who (.ref dt) (.ref bl) p.parent (.ref q) .fL false .fL))) q=some (.dK (fF nm)):=by rw[aG xq.symm,ai]
 have fin:∀H2:Hp,(∀b o,H1 b=some o->b≠x->b≠q->H2 b=some o)->H2 x=some (.ins T.Paper.C sL (pF p.num p.who (.ref dt) (.ref bl) p.parent (.ref q) .fL false .fL))->H2 q=some (.dK (fF (nm.filter λx=>x != n)))->Q (.ref x) H2:=λH2 h2 hx UD=>by
  have s2:aS H H2:=λb o e=>h2 b o (s1 b o e) (aR e nx) (aR (s1 b o e) hq)
  exact k H2 x q s2 ⟨sL,dt,bl,nm.filter λx=>x != n,.fL,.fL,hx,s2 _ _ R.date,R.boxes.keep s2.kl,UD,R.perm.filter _,rfl,rfl⟩
 refine⟨_,rfl,_,_,_,_,_,rfl,ai,T.Paper.cl,T.cq,fE,q,rfl,.inl ⟨_,.inl Wh⟩,_,rfl,fF nm,Sum.inl (n:Int),Wh,rfl,λv ev=>⟨_,rfl,?_⟩,λev=>⟨_,rfl,?_⟩⟩
 ·refine fin _ (λb o e hb RK=>?_) ?_ ?_
  ·rw[aG RK,aG hb,aG RK];exact e
  ·rw[aG xq,ai]
  ·rw[ai,vL]
 ·refine fin _ (λb o e hb RK=>?_) ai ?_
  ·rw[aG hb,aG RK];exact e
  ·rw[Wh,KL ev]
def kT(s:State)(t:Nat):List Nat:=(s.papers.filter λq=>decide (q.day<t)).map (·.num)
def J8(T:Tx K mg base):Sp:=λvs H Q _=>∃(z:Ad)(s:State)(L:List Paper)(M:List Deed)(wh:Nat)(d c:Addr)(t:Nat)(b:Box),vs=[.ref z.b,.int wh,.ref d,.ref c]/\QX T z s L M H/\H d=some (.tup (dv t))/\VN t/\H c=some (.tup (bv b))/\
 ∀H' a nd,aS H H'->dZ T.Paper.C H' a nd (Pb.jj s wh b t (kT s t))->Q (.ref a) H'
theorem pN(T:Tx K mg base):Ok P w base 3 T.jv (J8 T):=by
 have nd:=kc.nd;refine T.jv.ok kc λH vs Q E hr h=>?_
 obtain⟨z,s,L,M,wh,d,c,t,b,rfl,B,hd,vt,hc,k⟩:=h;have hu:=ft hr;refine⟨_,(af (sl 4 nd (ue T.um ((j4 T).mono (by decide)) hr rfl T.Paper.mg T.ia.b .nil pK (ag aC (av 1 (av 2 (ag (a7 (av 3 ah)) (ag aC ah)))))))
   (af (lG cX rfl (i7 (aF (pv 0) rfl)) (gl 5 nd) (au (bt (bB (mf (K:=K) rfl hr.ji) (aF (pv 5) rfl) (pv 2) (bK _)) (au (md hu (aF (pv 4) rfl) (aF (pv 5) rfl) jo rfl)) aQ)))
   (au (aH (pv 4))))),?_⟩
 refine⟨_,rfl,_,rfl,_,rfl,(by show 1<=sizeLine;decide),λl hl=>?_⟩;have s0:aS H (upd H l (.lst [.ref c])):=aS.new hl;generalize hH0:upd H l (.lst [.ref c])=H0 at s0;have el:H0 l=some (.lst [.ref c]):=by rw[<-hH0];exact ai
 intro x sL nx zM RC;refine⟨x,sL,0,wh,0,.ref d,.ref l,rfl,ai,λH1 Iw e1 e2 e3 e4=>⟨rfl,?_⟩⟩;have s01:aS H0 H1:=aS.made nx zM e4;have s1:aS H H1:=s0.trans s01;have n0:H0 Iw=none:=by
  cases q:H0 Iw with
  |none=>rfl
  |some o=>
   have h1:Iw≠x:=λe=>by rw[e,nx]at q;cases q
   have h2:Iw≠sL:=λe=>by rw[e,zM]at q;cases q
   rw[aG h1,aG h2,q]at e1;cases e1
 have B1:=B.same s1;obtain⟨o,fP⟩:=B1.fP;refine⟨_,rfl,_,_,_,_,_,rfl,B1.ins,T.bM.cl,T.aI,bc,z.P,o,_,rfl,fP,mH (n:=L.length) (λi σ H'=>∃v5:Option V,(∀b o,H1 b=some o->b≠Iw->H' b=some o)/\H' Iw=some (.dK (fF (((L.take i).filter λq=>decide (q.day<t)).map (·.num))))/\σ=[some (.ref z.b),some (.int wh),some (.ref d),some (.ref c),some (.ref x),v5])
  ⟨none,λb o e _=>e,e3,rfl⟩ (λi σ H' hi⟨_,h,_⟩=>pV (h _ _ fP (cF fP e3 (by intro q;cases q))) (by rw[gR];exact hi)) (λσ H'⟨_,h,_⟩=>by have q:=kh (h _ _ fP (cF fP e3 (by intro q;cases q)));rw[gR]at q;exact q) ?_ ?_⟩
 ·rintro i y σ H2 H3 hi ⟨v5,h2,hn,rfl⟩ ⟨rfl,key,hx⟩
  have hq:L[i]?=some L[i]:=ae hi;have IM:L[i]∈L:=bL hi;generalize L[i]=q at hq IM;have ex:=nN hq hx;subst ex;have s2:aS H H3:=λb o e=>h2 b o (s1 b o e) (aR (s0 b o e) n0)
  obtain⟨UY,Q9,U1,Uw,Uh,Ur,R2⟩:=B.paper q IM;have S1:=s2 _ _ R2.ins;have O4:=h2 _ _ e2 (λe=>by rw[e,e3]at e2;cases e2);dsimp only[m5];refine oQ ?_;refine⟨_,rfl,_,_,_,_,_,rfl,S1,T.Paper.cl,T.bG,dN,_,rfl,Q9,d,Vbptae.shown q.day,Vbptae.shown t,rfl,rfl,c8.of (s2 _ _ R2.date),c8.of (s2 _ _ hd),_,rfl,?_⟩;rw[eY (eW (B.vn IM)) vt,take_snoc hq,tm,dQ,zT];refine jb (λh1=>?_) (λh1=>?_)
  ·have ev:fB (fF (((L.take i).filter λq=>decide (q.day<t)).map (·.num))) (Sum.inl (q.num:Int))=none:=by
    refine ig (f:=λq:Nat=>(Sum.inl (q:Int):Key)) (g:=λ_=>V.bl true) λm hm e=>?_
    obtain⟨r,hr,rfl⟩:=aV.mp hm;have JH:=(cp.mp hr).1
    have er:r=q:=B.inj (C3 JH) IM (by injection e with e;omega);subst er;have nd:=B.i6.nodup_iff.mpr (by rw[bN];exact B.wf.ps.imp (λh e=>by rw[e]at h;omega));obtain⟨j,hj,ej⟩:=a8.mp JH;rw[List.getElem_take]at ej;have WD:j<i:=by rw[bW]at hj;omega
    have:=OB nd (i:=j) (j:=i) (x:=r) (by rw[ae (by omega),ej]) hq;omega
   refine⟨_,rfl,_,_,_,_,_,rfl,O4,T.Paper.cl,T.cq,fE,_,rfl,_,_,_,_,_,rfl,S1,T.Paper.cl,T.bS,df,Iw,_,rfl,sZ.k (k:=Sum.inl (q.num:Int)) hn (by unfold fF;rw[ab,ab];refine jL (bf (bu _ _) ?_);rw[bW];have:=B.uq;omega),?_⟩;rw[aJ h1,az rfl,jm _ ev];refine⟨some (.ref (z.pa q.num)),λb o e hb=>by rw[aG hb];exact h2 b o e hb,?_,rfl⟩;rw[ai,aZ];unfold fF;rw[aZ];rfl
  ·rw[aD h1,aw aK,fj]
   exact⟨some (.ref (z.pa q.num)),h2,hn,rfl⟩
 ·rintro σ H2 ⟨v5,h2,hn,rfl⟩
  rw[cM]at hn;refine⟨_,rfl,?_⟩;have s2:aS H H2:=λb o e=>h2 b o (s1 b o e) (aR (s0 b o e) n0)
  have O4:=h2 _ _ e2 (λe=>by rw[e,e3]at e2;cases e2);have rH:=h2 _ _ (s01 _ _ el) (aR el n0);refine k H2 x Iw s2 ⟨sL,d,l,_,.fL,.fL,O4,s2 _ _ hd,⟨[c],rH,rfl,λi a b' h3 h4=>?_⟩,hn,?_,rfl,rfl⟩
  ·have hi:i=0:=by have:=(aN.mp h3).1;simpa using this
   subst hi;cases h3;cases h4;exact s2 _ _ hc
  ·exact(B.i6.filter _).map _
def J3(T:Tx K mg base):Sp:=λvs H Q _=>∃(a nd a' uj:Addr)(p q:Paper),vs=[.ref a,.ref a']/\dZ T.Paper.C H a nd p/\dZ T.Paper.C H a' uj q/\Q (.bl (Pb.joined p q)) H
theorem Au(T:Tx K mg base):Ok P w base 1 T.sT (J3 T):=by
 refine T.sT.ok Ac λH vs Q E hr h=>?_
 obtain⟨a,Iw,a',OC,p,q,rfl,hp,hq,k⟩:=h;have hu:=ft hr;refine⟨_,(af (bt (PW.pt (mS (cS (pJ hu (aF (pv 1) rfl) (aF (pv 0) rfl))) (mw (cS (pJ hu (aF (pv 0) rfl) (aF (pv 1) rfl)))))) (au (aH jo)) aQ)
   (au (aH (Ox (gg eA (aF (pv 0) rfl) (aF (pv 1) rfl) (bK _)) (nQ (gg eA (aF (pv 1) rfl) (aF (pv 0) rfl) (bK _))))))),?_⟩
 obtain⟨dx,dt,bl,nm,wd,pu,R⟩:=hp;obtain⟨UY,Q9,U1,Uw,Uh,Ur,R2⟩:=hq;refine mU (p.names.contains q.num) (q.names.contains p.num) (λQ' q'=>?_) (λ_ Q' q'=>?_) ?_
 ·refine⟨_,rfl,_,_,_,_,_,rfl,R2.ins,T.Paper.cl,T.bS,df,_,rfl,_,_,_,_,_,rfl,R.ins,T.Paper.cl,T.cq,fE,Iw,_,rfl,eG.k (k:=Sum.inl (q.num:Int)) R.named,_,rfl,?_⟩
  rw[mX R.perm];exact q'
 ·refine⟨_,rfl,_,_,_,_,_,rfl,R.ins,T.Paper.cl,T.bS,df,_,rfl,_,_,_,_,_,rfl,R2.ins,T.Paper.cl,T.cq,fE,OC,_,rfl,eG.k (k:=Sum.inl (p.num:Int)) R2.named,_,rfl,?_⟩
  rw[mX R2.perm];exact q'
 refine mY (λh1=>?_) (λh1=>?_)
 ·have e:Pb.joined p q=true:=by unfold Pb.joined;rw[<-Bool.or_assoc,h1];rfl
  rw[e]at k;exact k
 ·dsimp only[xV,R1]
  refine Qa (decide (p.parent=q.num)) (decide (q.parent=p.num)) (λQ' q'=>?_) (λ_ Q' q'=>?_) ?_
  ·refine⟨_,rfl,_,_,_,_,_,rfl,R.ins,T.Paper.cl,T.de,ir,_,rfl,_,_,_,_,_,rfl,R2.ins,T.Paper.cl,T.bS,df,rfl,?_⟩
   rw[xa,show decide ((p.parent:Int)=(q.num:Int))=decide (p.parent=q.num)from dP.mpr (by omega)];exact q'
  ·refine⟨_,rfl,_,_,_,_,_,rfl,R2.ins,T.Paper.cl,T.de,ir,_,rfl,_,_,_,_,_,rfl,R.ins,T.Paper.cl,T.bS,df,rfl,?_⟩
   rw[xa,show decide ((q.parent:Int)=(p.num:Int))=decide (q.parent=p.num)from dP.mpr (by omega)];exact q'
  ·have e:Pb.joined p q=(decide (p.parent=q.num)||decide (q.parent=p.num)):=by
    unfold Pb.joined;rw[<-Bool.or_assoc,h1,Fl];congr 1
   rw[e]at k;exact k
def PL(T:Tx K mg base):Sp:=λvs H Q _=>∃(z:Ad)(s:State)(L:List Paper)(M:List Deed)(p:Paper)(a nd c:Addr)(b:Box),vs=[.ref z.b,.ref a,.ref c]/\QX T z s L M H/\dZ T.Paper.C H a nd p/\qJ s z L p a/\c8 K H c (bv b)/\
 ∀H' l,Kp H H'->QX T z s L M H'->H' l=some (.lst ((Vbptae.shown (dayIn s p b).1++ [((dayIn s p b).2:Int)]).map V.int))->Q (.ref l) H'
theorem jt(T:Tx K mg base):Ok P w base 9 T.h9 (PL T):=by
 have nd:=lY.nd;refine T.h9.ok lY λH vs Q E hr h=>?_
 obtain⟨z,s,L,M,p,a,uj,c,b,rfl,B,hp,ha,hc,k⟩:=h;refine⟨_,(af (sl 3 nd (pc T.sP (mW T) hr (av 0 (av 1 (av 2 ah)))))
   (au (aH (dr iH (cu dY (by rfl) T.lL boot_list (ag (cA dg (pv 3) aC (λ_ _=>rfl)) ah)) (a7 (ag (cA dg (pv 3) aC (λ_ _=>rfl)) ah)))))),?_⟩
 refine⟨_,rfl,_,rfl,_,rfl,z,s,L,M,p,a,uj,c,b,rfl,B,hp,ha,hc,λH1 t dt k1 B1 ht E9 vd=>?_⟩;refine⟨_,rfl,_,_,_,_,rfl,rfl,c8.of ht,rfl,dt,_,rfl,.inr (c8.of E9),λl1 zN=>?_⟩;have s2:=aS.new (o:=.lst (dv (dayIn s p b).1)) zN
 refine⟨_,rfl,_,_,_,_,rfl,rfl,c8.of (s2 _ _ ht),rfl,(by show 1<=sizeLine;decide),λl2 rH=>?_⟩;have VM:l1≠l2:=aR ai rH;refine⟨l1,l2,_,_,rfl,rfl,(by rw[aG VM];exact ai),ai,(by show 3+1<=sizeLine;decide),λl3 NJ=>?_⟩;have s3:=aS.new (o:=.lst [V.int (((dayIn s p b).2:Nat):Int)]) rH
 have s4:=s2.trans s3;refine k _ l3 (k1.trans (s4.trans (aS.new NJ)).kp) (B1.same (s4.trans (aS.new NJ))) ?_
 rw[ai,aZ];rfl
def HU(T:Tx K mg base):Sp:=λvs H Q _=>∃(z:Ad)(s:State)(L:List Paper)(M:List Deed)(p:Paper),vs=[.ref z.b,.ref (z.pa p.num)]/\QX T z s L M H/\p∈L/\
 ∀H' l,Kp H H'->QX T z s L M H'->H' l=some (.lst ((Vbptae.ints (sources s p)).map V.int))->Q (.ref l) H'
theorem fM{K:c9}{H:Hp}{a:Addr}{xs:List V}(h:H a=some (.lst xs)):cG K H a xs:=cG.of h
theorem yG:∀{l:List Int},(∀x∈l,0<=x)->∃k:List Nat,l=Vbptae.ints k
 | [],_=>⟨[],rfl⟩
 |x::l,h=>by
  obtain⟨k,e⟩:=yG (l:=l) λy hy=>h y (ao _ hy)
  refine⟨x.toNat::k,?_⟩;show x::l=((x.toNat:Nat):Int)::Vbptae.ints k;rw[<-e,du (h x ax)]
theorem yU{k:List Nat}{n:Nat}:(n:Int)∈Vbptae.ints k↔n∈k:=by
 unfold Vbptae.ints;rw[aV];constructor
 ·rintro⟨m,hm,e⟩;rw[<-vX.mp e];exact hm
 ·intro h;exact⟨n,h,rfl⟩
theorem yV{k:List Nat}(h:(Vbptae.ints k).Pairwise (· <= ·)) (nd:(Vbptae.ints k).Nodup):k.Pairwise (· < ·):=by
 have h2:(Vbptae.ints k).Pairwise (λa b=>a<=b/\a≠b):=h.imp₂ (λa b h1 h2=>⟨h1,h2⟩) (bN.mp nd)
 unfold Vbptae.ints at h2;rw[cy]at h2;exact h2.imp λ⟨h1,h3⟩=>by omega
theorem rn(T:Tx K mg base):Ok P w base 9 T.nE (HU T):=by
 have nd:=qV.nd;refine T.nE.ok qV λH vs Q E hr h=>?_
 obtain⟨z,s,L,M,p,rfl,B,hp,k⟩:=h;refine⟨_,(au (aH (bQ (EH rfl) (by rfl) T.km boot_sorted (ag (cu (Jk rfl) (by rfl) T.LY boot_set (ag (oK rfl nd (iq (aF (pv 1) rfl)) (fI (N:=["book","paper","box"]) (sc:=aL nH) (own:=[("box",2)]) (by decide +kernel)) (λ_ _ _ _ _=>(gl 2 nd)) (λ_ _ _ _ _=>jn) (λ_ _ _ _ _=>(cA (Hf (K:=K) rfl) (pc T.sP (mW T) hr (av 0 (av 1 (av 2 ah)))) aC (λ_ _=>rfl)))) ah)) ah)))),?_⟩;obtain⟨dx,dt,bl,nm,wd,pu,R⟩:=B.paper p hp;obtain⟨cs,nt,vF⟩:=R.boxes;have lcs:(cs.map V.ref).length=p.boxes.length:=by rw[ab,vF.1]
 have T9:=(B.pw hp).b2
 refine⟨_,rfl,_,_,_,_,_,rfl,R.ins,T.Paper.cl,T.cC,fS,bl,rfl,⟨_,cG.of nt⟩,λD hD=>Ny (L:=p.boxes) (BM (T:=T) (z:=z) (s:=s) (L:=L) (M:=M)) hD (by omega) (λb=>.int ((dayIn s p b).2:Nat)) (λi H' hi r=>jR (cG.of (r.1 _ _ nt rfl)) (by rw[lcs];exact hi)) (λH' r=>by have q:=gr (fM (K:=K) (r.1 _ _ nt rfl));rw[lcs]at q;exact q) (λi b x H1 H2 N1 hi r y kk=>?_) λH1 r e=>?_⟩
 ·obtain⟨rfl,hx⟩:=iz (fM (r.1 _ _ nt rfl)) y
  obtain⟨c,hc,rfl⟩:=fW hx;have B2:=r.2 B;refine⟨rfl,_,rfl,_,rfl,_,rfl,z,s,L,M,p,z.pa p.num,z.nd p.num,c,b,rfl,B2,B2.paper p hp,.inl ⟨hp,rfl⟩,c8.of (r.1 _ _ (vF.2 i c b hc hi) rfl),λH3 t AB k3 B3 ht E9 vd=>?_⟩;refine⟨_,_,_,_,rfl,rfl,c8.of ht,rfl,kk H3 ⟨k3,λ_=>B3⟩⟩
 ·have B1:=r.2 B
  refine⟨D,p.boxes.map λb=>(((dayIn s p b).2:Nat):Int),rfl,cG.of (by rw[e,bC];rfl),(by rw[ab];omega),λq o Ob ks hq So Va OI=>?_⟩
  have s2:=aS.new (o:=oO q o) hq;refine⟨q,o,Ob,ks,rfl,ai,So,Va,λjf l oP hle hl=>?_⟩;obtain⟨kk,ek⟩:=yG (l:=jf) λx hx=>by
   obtain⟨b,_,e⟩:=aV.mp ((OI x).mp (oP.mem_iff.mp hx))
   rw[<-e];omega
  subst ek;have lt:=yV hle (oP.nodup_iff.mpr Va.2.2.1);have es:sources s p=kk:=Pb.FD lt λx=>by
   rw[<-yU,oP.mem_iff,OI,aV];constructor
   ·rintro⟨b,hb,e⟩;exact⟨b,hb,by omega⟩
   ·rintro⟨b,hb,e⟩;exact⟨b,hb,by omega⟩
  refine k _ l (r.1.trans (s2.trans (aS.new hl)).kp) (B1.same (s2.trans (aS.new hl))) ?_
  rw[ai,es]
theorem uB{K:c9}{H:Hp}:∀ns:List Int,zF K H (ns.map V.int) (ns.map PyData.int)
 | []=>.nil
 |n::ns=>.cons (.int n) (uB ns)
theorem qc:∀ns:List Int,PyData.canLayAll0 (ns.map PyData.int)=true
 | []=>by simp[PyData.canLayAll0]
 |n::ns=>by simp[PyData.canLayAll0,PyData.canLay0,qc ns]
theorem sO:∀ns:List Int,PyData.depthAll (ns.map PyData.int)=0
 | []=>by simp[PyData.depthAll]
 |n::ns=>by simp[PyData.depthAll,PyData.depth,sO ns]
theorem vZ(ns:List Int):SeqAt.shaped (.list (ns.map PyData.int))=true:=by
 unfold SeqAt.shaped;simp[PyData.canLay0,PyData.depth,qc,sO]
theorem xY(ns:List Int):SeqAt.shaped (.tuple (ns.map PyData.int))=true:=by
 unfold SeqAt.shaped;simp[PyData.canLay0,PyData.depth,qc,sO]
theorem za:∀ns ms:List Int,PyData.eqvAll (ns.map PyData.int) (ms.map PyData.int)=decide (ns=ms)
 | [],[]=>by simp[PyData.eqvAll]
 | [],_::_=>by simp[PyData.eqvAll]
 |_::_,[]=>by simp[PyData.eqvAll]
 |n::ns,m::ms=>by
  simp only[aT,PyData.eqvAll,PyData.eqv,za ns ms];rw[bz];simp
def MQ(T:Tx K mg base):Sp:=λvs H Q _=>∃(z:Ad)(s:State)(L:List Paper)(M:List Deed)(p:Paper),vs=[.ref z.b,.ref (z.pa p.num)]/\QX T z s L M H/\p∈L/\
 ∀H' l,Kp H H'->QX T z s L M H'->H' l=some (.lst ((Vbptae.ints (alikeFamily s p)).map V.int))->Q (.ref l) H'
theorem Av(T:Tx K mg base):Ok P w base 10 T.sV (MQ T):=by
 have nd:=ra.nd;refine T.sV.ok ra λH vs Q E hr h=>?_
 obtain⟨z,s,L,M,p,rfl,B,hp,k⟩:=h;refine⟨_,(af (sl 2 nd (pc T.nE (rn T) hr (av 0 (av 1 ah))))
   (au (aH (bQ Bh (by rfl) T.km boot_sorted (ag (oK rfl nd (i7 (aF (pv 0) rfl)) (fI (N:=["book","paper","sources","other"]) (sc:=aL nJ) (own:=[("other",3)]) (by decide +kernel)) (λ_ _ _ _ _=>(gl 3 nd)) (λ_ _ _ _ _=>(xw (bB (Nm (K:=K) rfl hr.units) (pc T.nE (rn T) hr (av 0 (av 3 ah))) (pv 2) (bK _)))) (λ_ _ _ _ _=>(gf (K:=K) rfl (pv 3) rfl))) ah))))),?_⟩
 refine⟨_,rfl,_,rfl,z,s,L,M,p,rfl,B,hp,λH1 l1 k1 B1 e1=>?_⟩;obtain⟨o,fP⟩:=B1.fP;have VQ:=B.uq;refine⟨_,rfl,_,_,_,_,_,rfl,B1.ins,T.bM.cl,T.aI,bc,z.P,o,_,rfl,fP,λD hD=>Uy (L:=L) (BM (T:=T) (z:=z) (s:=s) (L:=L) (M:=M)) hD (by omega) (λq=>sources s q==sources s p) (λq=>.int (q.num:Nat)) (λi H' hi r=>pV (r.1 _ _ fP rfl) (by rw[gR];exact hi)) (λH' r=>by have q:=kh (r.1 _ _ fP rfl);rw[gR]at q;exact q) (λi q x H2 H3 N1 N0 hi r y Qw Qx=>?_) λH2 r e=>?_⟩
 ·obtain⟨rfl,key,hx⟩:=y
  have ex:=nN hi hx;subst ex;have hq:q∈L:=aY hi;have B2:=r.2 B1;refine⟨rfl,_,rfl,_,rfl,z,s,L,M,q,rfl,B2,hq,λH4 l4 k4 B4 e4=>?_⟩;refine⟨_,rfl,_,_,.lst (cG.of e4) (uB _),.lst (cG.of ((r.1.trans k4) _ _ e1 rfl)) (uB _),vZ _,vZ _,_,rfl,?_⟩;rw[show PyData.eqv (.list ((Vbptae.ints (sources s q)).map PyData.int)) (.list ((Vbptae.ints (sources s p)).map PyData.int))=(sources s q==sources s p) by
   simp only[PyData.eqv,za];rw[bz];simp only[cx,fb];exact⟨uw,λh=>by rw[h]⟩]
  obtain⟨dx,dt,bl,nm,wd,pu,R⟩:=B4.paper q hq;refine mY (λh1=>?_) (λh1=>Qx H4 ⟨k4,λ_=>B4⟩ h1);exact⟨_,rfl,_,_,_,_,_,rfl,R.ins,T.Paper.cl,T.bS,df,Qw H4 ⟨k4,λ_=>B4⟩ h1⟩
 ·have B2:=r.2 B1
  have pm:((L.filter λq=>sources s q==sources s p).map λq=>((q.num:Nat):Int)).Perm (Vbptae.ints (alikeFamily s p)):=by
   unfold alikeFamily Vbptae.ints;rw[bC];exact(B.i6.filter _).map _
  refine⟨D,(L.filter λq=>sources s q==sources s p).map λq=>((q.num:Nat):Int),rfl,cG.of (by rw[e,bC];rfl),(by rw[ab];exact GI (bu _ _) (by omega)),λjf l oP hle hl=>?_⟩
  have lt:(alikeFamily s p).Pairwise (· < ·):=by
   unfold alikeFamily;rw[cy];exact B.wf.ps.filter _
  have en:=kN (oP.trans pm) hle (xE lt);subst en;exact k _ l (k1.trans (r.1.trans (aS.new hl).kp)) (B2.same (aS.new hl)) ai
end
structure O3(z:Ad)(s:State)(L:List Paper)(n:Nat)(f w:Addr)(H:Hp)(cur:List Paper)(fs:List Nat)(ws:List Paper)(H':Hp):Prop where
 same:aS H H'
 fd:H' f=some (.dK (fF fs))
 wd:H' w=some (.lst (ws.map λq=>V.ref (z.pa q.num)))
 nd:fs.Nodup
 OE:∀m∈fs,∃q∈L,q.num=m
 Lj:∀m∈fs,Pb.Ju s n m
 has:n∈fs
 wl:∀q∈ws,q∈L/\q.num∈fs
 cl:∀q∈L,q.num∈fs->q∈ws\/q∈cur\/∀r∈L,Pb.joined q r=true->r.num∈fs
theorem O3.len{z:Ad}{s:State}{L:List Paper}{n:Nat}{f w:Addr}{H:Hp}{cur:List Paper}{fs:List Nat}{ws:List Paper}{H':Hp}(F:O3 z s L n f w H cur fs ws H'):fs.length<=L.length:=by
 have q:=Pb.dW (l:=fs) (k:=L.map (·.num)) F.nd λm hm=>by
  obtain⟨q,hq,e⟩:=F.OE m hm;exact aV.mpr ⟨q,hq,e⟩
 rw[ab]at q;exact q
theorem KN(fs:List Nat)(n:Nat):(fB (fF fs) (Sum.inl (n:Int))).isSome=decide (n∈fs):=by
 unfold fF
 by_cases h:n∈fs
 ·rw[kM (f:=λq:Nat=>(Sum.inl (q:Int):Key)) (g:=λ_=>V.bl true) h λq _ e=>by injection e with e;omega,aJ h];rfl
 ·rw[ig (f:=λq:Nat=>(Sum.inl (q:Int):Key)) (g:=λ_=>V.bl true) λq hq e=>h (by injection e with e;rw[show n=q by omega];exact hq),aD h];rfl
section
variable{P:Program}{w:World}{K:c9}{mg:jB}{base:Heap}
def J7(T:Tx K mg base):Sp:=λvs H Q _=>∃(z:Ad)(s:State)(L:List Paper)(M:List Deed)(p:Paper),vs=[.ref z.b,.ref (z.pa p.num)]/\QX T z s L M H/\p∈L/\
 ∀H' l,aS H H'->H' l=some (.lst ((Vbptae.ints (family s p.num)).map V.int))->Q (.ref l) H'
theorem Cg(T:Tx K mg base):Ok P w base 2 T.vJ (J7 T):=by
 have nd:=tQ.nd;refine T.vJ.ok tQ λH vs Q E hr h=>?_
 obtain⟨z,s,L,M,p,rfl,B,hp,k⟩:=h;have hu:=ft hr;refine⟨_,(af (sl 2 nd (Ni (Kj (aF (pv 1) rfl) jo Nc) rfl rfl (by simp) (by decide)))
   (af (sl 3 nd (a7 (av 1 ah)))
   (af (ud cX (bB SH (bQ cK (by rfl) T.gz bH (av 3 ah)) aC (bK _)) (af (sl 4 nd (P6 bV PySem.F.slot_list_pop PySem.F.type_list_pop Qp (pv 3)))
   (au (lG cX rfl (i7 (aF (pv 0) rfl)) (gl 5 nd) (au (bt (PW.pt (nL (cS (cH hu (aF (pv 5) rfl) (pv 2))) (kP (cR (pc T.sT (Au T) hr (av 4 (av 5 ah))))))) (af (md hu (pv 2) (aF (pv 5) rfl) jo rfl)
   (au (fR (oM bV kX kW qu (pv 3) (av 5 ah))))) aQ))))))
   (au (aH (bQ (sQ rfl) (by rfl) T.km boot_sorted (av 2 ah))))))),?_⟩
 obtain⟨dx,dt,bl,nm,wd,pu,R⟩:=B.paper p hp;have VQ:=B.uq;intro f hf;have s1:=aS.new (o:=.dK []) hf;refine⟨_,rfl,_,_,_,_,_,rfl,s1 _ _ R.ins,T.Paper.cl,T.bS,df,ai,[((Sum.inl (p.num:Int):Key),V.bl true)],rfl,(by show 1<=15;decide),?_⟩;rw[Ms,show vw [] [((Sum.inl (p.num:Int):Key),V.bl true)]=fF [p.num]from rfl];have s2:=aS.new (o:=.dK (fF [p.num])) hf;generalize Lo:upd H f (.dK (fF [p.num]))=H2 at s2;have ef:H2 f=some (.dK (fF [p.num])):=by rw[<-Lo];exact ai
 refine⟨_,rfl,(by show 1<=sizeLine;decide),λu F5=>?_⟩;have s3:=aS.new (o:=.lst [V.ref (z.pa p.num)]) F5;have fu:f≠u:=aR ef F5;have F0:O3 z s L p.num f u H [] [p.num] [p] (upd H2 u (.lst [V.ref (z.pa p.num)])):=by
  refine⟨s2.trans s3,s3 _ _ ef,ai,bY.mpr ⟨by simp,C2⟩,λm hm=>⟨p,hp,(aP.mp hm).symm⟩,λm hm=>?_,aP.mpr rfl,λq hq=>?_,λq hq hm=>.inl ?_⟩
  ·rw[aP.mp hm];exact λS hS=>hS.1
  ·rw[aP.mp hq];exact⟨hp,aP.mpr rfl⟩
  ·rw[B.inj hq hp (aP.mp hm)];exact aP.mpr rfl
 refine⟨λm σ H'=>∃(fs:List Nat)(ws:List Paper)(v4 v5:Option V),O3 z s L p.num f u H [] fs ws H'/\m=2*(L.length-fs.length)+ws.length/\m<=48/\σ=[some (.ref z.b),some (.ref (z.pa p.num)),some (.ref f),some (.ref u),v4,v5],⟨_,[p.num],[p],none,none,F0,rfl,(by have:=i4 hp;show 2*(L.length-1)+1<=48;omega),rfl⟩,?_⟩;rintro m σ H3 ⟨fs,ws,v4,v5,F,rfl,m48,rfl⟩;refine⟨_,rfl,u,_,rfl,.inl (cG.of F.wd),_,_,rfl,rfl,_,rfl,jb (λh1=>?_) (λh1=>?_)⟩
 ·rw[ab]at h1
  obtain⟨Mp,one,rfl⟩:∃Mp one,ws=Mp++ [one]:=by
   have vE:ws≠ []:=by intro e;rw[e]at h1;simp at h1
   exact⟨ws.dropLast,ws.getLast vE,(List.dropLast_concat_getLast vE).symm⟩
  obtain⟨SK,SJ⟩:=F.wl one (by simp);have B3:=B.same F.same;refine⟨λgO H'=>∃(Lq:List Nat)(O5:List Paper)(v4 v5:Option V),O3 z s L p.num f u H [] Lq O5 H'/\2*(L.length-Lq.length)+O5.length<2*(L.length-fs.length)+(Mp++ [one]).length/\gO=[some (.ref z.b),some (.ref (z.pa p.num)),some (.ref f),some (.ref u),v4,v5],λgO H'⟨Lq,O5,v4,v5,g1,g2,g3⟩=>⟨_,g2,Lq,O5,v4,v5,g1,rfl,bf (gZ g2) m48,g3⟩,?_⟩
  refine⟨_,rfl,.inl ⟨rfl,_,cG.of F.wd⟩,u,_,V.ref (z.pa one.num),rfl,rfl,F.wd,(by rw[aZ,aA,ab];simp),?_⟩;have su:aS H (upd H3 u (.lst (((Mp++ [one]).map λq=>V.ref (z.pa q.num)).dropLast))):=λb o e=>by
   have hb:b≠u:=aR (s2 b o e) F5;rw[aG hb];exact F.same b o e
  have F1:O3 z s L p.num f u H [one] fs Mp (upd H3 u (.lst (((Mp++ [one]).map λq=>V.ref (z.pa q.num)).dropLast))):=by
   refine⟨su,by rw[aG fu];exact F.fd,by rw[ai,aZ,List.map_singleton,List.dropLast_concat],F.nd,F.OE,F.Lj,F.has,λq hq=>F.wl q (cI _ hq),λq hq hm=>?_⟩;rcases F.cl q hq hm with h|h|h
   ·rcases br.mp h with g|g
    ·exact .inl g
    ·exact .inr (.inl g)
   ·cases h
   ·exact .inr (.inr h)
  generalize upd H3 u (.lst (((Mp++ [one]).map λq=>V.ref (z.pa q.num)).dropLast))=H4 at F1
  have B4:=B.same F1.same;obtain⟨o,fP⟩:=B.fP;refine⟨_,rfl,_,_,_,_,_,rfl,B4.ins,T.bM.cl,T.aI,bc,z.P,o,_,rfl,F1.same _ _ fP,mH (n:=L.length) (λi σ H'=>∃(Lq:List Nat)(O5:List Paper)(v5:Option V),O3 z s L p.num f u H [one] Lq O5 H'/\one.num∈Lq/\(∀r∈L.take i,Pb.joined one r=true->r.num∈Lq)/\2*(L.length-Lq.length)+O5.length<=2*(L.length-fs.length)+Mp.length/\
   σ=[some (.ref z.b),some (.ref (z.pa p.num)),some (.ref f),some (.ref u),some (.ref (z.pa one.num)),v5]) ⟨fs,Mp,v5,F1,SJ,λr hr=>by simp at hr,ay _,rfl⟩
   (λi σ H' hi⟨_,_,_,h,_⟩=>pV (h.same _ _ fP) (by rw[gR];exact hi)) (λσ H'⟨_,_,_,h,_⟩=>by have q:=kh (h.same _ _ fP);rw[gR]at q;exact q) ?_ ?_⟩
  ·rintro i y σ H5 H6 hi ⟨Hk,O6,v5,F2,Uu,j2,m2,rfl⟩ ⟨rfl,key,hx⟩
   have hr:L[i]?=some L[i]:=ae hi;have Dd:L[i]∈L:=bL hi;generalize L[i]=r at hr Dd;have ex:=nN hr hx;subst ex;have B6:=B.same F2.same;obtain⟨UY,Q9,U1,Uw,Uh,Ur,R2⟩:=B6.paper r Dd;dsimp only[m5];refine oQ ?_;refine sU (!decide (r.num∈Hk)) (Pb.joined one r) (λQ' q=>?_) (λ_ Q' q=>?_) ?_
   ·refine⟨_,rfl,_,_,_,_,_,rfl,R2.ins,T.Paper.cl,T.bS,df,_,rfl,f,_,rfl,eG.k (k:=Sum.inl (r.num:Int)) F2.fd,_,rfl,?_⟩
    rw[KN];exact q
   ·exact⟨_,rfl,_,rfl,z.pa one.num,z.nd one.num,z.pa r.num,z.nd r.num,one,r,rfl,B6.paper one SK,B6.paper r Dd,_,rfl,q⟩
   refine mY (λh2=>?_) (λh2=>?_)
   ·rw[a6]at h2
    have hn:r.num∉Hk:=(by simpa using h2.1);have fl:=F2.len;have ev:fB (fF Hk) (Sum.inl (r.num:Int))=none:=by
     have q:=KN Hk r.num;rw[aD hn]at q;exact Option.isNone_iff_eq_none.mp (by simpa using q)
    refine⟨_,rfl,_,rfl,_,_,_,_,_,rfl,R2.ins,T.Paper.cl,T.bS,df,f,_,rfl,sZ.k (k:=Sum.inl (r.num:Int)) F2.fd (by unfold fF;rw[ab];exact jL (by omega)),?_⟩;rw[jm _ ev,show fF Hk++ [((Sum.inl (r.num:Int):Key),V.bl true)]=fF (Hk++ [r.num]) by unfold fF;rw[aZ];rfl];have fin:∀H',(∀b o,H6 b=some o->b≠f->b≠u->H' b=some o)->H' f=some (.dK (fF (Hk++ [r.num])))->H' u=some (.lst ((O6++ [r]).map λq=>V.ref (z.pa q.num)))->O3 z s L p.num f u H [one] (Hk++ [r.num]) (O6++ [r]) H':=λH' h3 h4 h5=>by
     refine⟨λb o e=>h3 b o (F2.same b o e) (aR e hf) (aR (s2 b o e) F5),h4,h5,?_,λm hm=>?_,λm hm=>?_,cI _ F2.has,λq hq=>?_,λq hq hm=>?_⟩
     ·exact xB F2.nd hn
     ·rcases br.mp hm with g|g
      ·exact F2.OE m g
      ·exact⟨r,Dd,(aP.mp g).symm⟩
     ·rcases br.mp hm with g|g
      ·exact F2.Lj m g
      ·rw[aP.mp g]
       exact λS hS=>hS.2 one (B.mem.mp SK) r (B.mem.mp Dd) (F2.Lj one.num Uu S hS) h2.2
     ·rcases br.mp hq with g|g
      ·exact⟨(F2.wl q g).1,cI _ (F2.wl q g).2⟩
      ·rw[aP.mp g];exact⟨Dd,cB _ (aP.mpr rfl)⟩
     ·rcases br.mp hm with g|g
      ·rcases F2.cl q hq g with c|c|c
       ·exact .inl (cI _ c)
       ·exact .inr (.inl c)
       ·exact .inr (.inr λt ht hj=>cI _ (c t ht hj))
      ·rw[B.inj hq Dd (aP.mp g)];exact .inl (cB _ (aP.mpr rfl))
    refine⟨_,rfl,.inl ⟨rfl,_,cG.of (by rw[aG fu.symm];exact F2.wd)⟩,_,rfl,u,_,_,rfl,rfl,(by rw[aG fu.symm];exact F2.wd),?_,?_⟩
    ·rw[ab]
     have:O6.length<=200:=by
      rw[aA,jE]at m48;omega
     exact jL (by omega)
    ·refine⟨Hk++ [r.num],O6++ [r],some (.ref (z.pa r.num)),fin _ (λb o e hb hbu=>by rw[aG hbu,aG hb];exact e) (by rw[aG fu,ai]) (by rw[ai,aZ];rfl),cI _ Uu,λt ht hj=>?_,?_,rfl⟩
     ·rw[take_snoc hr]at ht
      rcases br.mp ht with g|g
      ·exact cI _ (j2 t g hj)
      ·rw[aP.mp g];exact cB _ (aP.mpr rfl)
     ·have:Hk.length+1<=L.length:=by
       have q:=Pb.dW (l:=Hk++ [r.num]) (k:=L.map (·.num)) (xB F2.nd hn) λm hm=>by
        rcases br.mp hm with g|g
        ·obtain⟨q,hq,e⟩:=F2.OE m g
         exact aV.mpr ⟨q,hq,e⟩
        ·exact aV.mpr ⟨r,Dd,(aP.mp g).symm⟩
       rw[ab,aA]at q;exact q
      rw[aA,aA,jE,jE];omega
   ·refine⟨Hk,O6,some (.ref (z.pa r.num)),F2,Uu,λt ht hj=>?_,m2,rfl⟩
    rw[take_snoc hr]at ht;rcases br.mp ht with g|g
    ·exact j2 t g hj
    ·have et:=aP.mp g
     subst et;rw[hj,Bool.and_true]at h2;simpa using h2
  ·rintro σ H5 ⟨Hk,O6,v5,F2,Uu,j2,m2,rfl⟩
   rw[cM]at j2;refine⟨Hk,O6,some (.ref (z.pa one.num)),v5,⟨F2.same,F2.fd,F2.wd,F2.nd,F2.OE,F2.Lj,F2.has,F2.wl,λq hq hm=>?_⟩,?_,rfl⟩
   ·rcases F2.cl q hq hm with c|c|c
    ·exact .inl c
    ·rw[aP.mp c];exact .inr (.inr j2)
    ·exact .inr (.inr c)
   ·rw[aA,jE];omega
 ·rw[ab]at h1
  have hws:ws=[]:=fN (by omega);subst hws;have fl:=F.len;refine⟨_,rfl,f,fF fs,Vbptae.ints fs,rfl,.inl F.fd,(by unfold fF Vbptae.ints;rw[bC,bC];rfl),(by unfold Vbptae.ints;rw[ab];omega),λjf l Me hle hl=>?_⟩;obtain⟨kk,ek⟩:=yG (l:=jf) λx hx=>by
   obtain⟨m,_,e⟩:=aV.mp (Me.mem_iff.mp hx);rw[<-e];omega
  subst ek;have JG:(Vbptae.ints fs).Nodup:=by
   unfold Vbptae.ints;rw[bN,cy];exact(bN.mp F.nd).imp λh e=>h (by omega)
  have lt:=yV hle (Me.nodup_iff.mpr JG);have mem:∀m,m∈kk↔m∈fs:=λm=>by rw[<-yU,Me.mem_iff,yU]
  have es:kk=family s p.num:=by
   refine Pb.Jb B.wf (B.mem.mp hp) lt (λm hm=>F.Lj m ((mem m).mp hm)) ((mem _).mpr F.has) λq hq r hr h3 h4=>(mem _).mpr ?_
   rcases F.cl q (B.mem.mpr hq) ((mem _).mp h3)with c|c|c
   ·cases c
   ·cases c
   ·exact c r (B.mem.mpr hr) h4
  refine k _ l (F.same.trans (aS.new hl)) ?_;rw[ai,es]
def qN(T:Tx K mg base)(z:Ad)(s:State)(L:List Paper)(M:List Deed)(c:Call)(H:Hp)(Q:VK):Prop:=∀H' l,Kp H H'->QX T z s L M H'->H' l=some (.lst ((Pb.dU s (act s c)).2.map V.int))->Q (.ref l) H'
section
variable{T:Tx K mg base}{z:Ad}{s:State}{L:List Paper}{M:List Deed}{c:Call}{H H1:Hp}{Q:VK}
theorem qN.ret(k:qN T z s L M c H Q){e:List Int}{l:Addr}(he:(Pb.dU s (act s c)).2=e) (k1:Kp H H1) (B1:QX T z s L M H1) (h:H1 l=some (.lst (e.map V.int))):Q (.ref l) H1:=k H1 l k1 B1 (by rw[he];exact h)
theorem qN.one(k:qN T z s L M c H Q){e:Int}(he:(Pb.dU s (act s c)).2=[e]) (k1:Kp H H1) (B1:QX T z s L M H1):∀l,H1 l=none->Q (.ref l) (upd H1 l (.lst [.int e])):=λl hl=>k.ret he (k1.trans (aS.new hl).kp) (B1.same (aS.new hl)) ai
theorem one_le:1<=sizeLine:=by decide
theorem BX.k8(B:BX T z s L M H):∀k∈s.sizes,k<=8:=λk h=>(B.wf.kv k h).2
theorem BX.get(B:BX T z s L M H){n:Int}{v:V}(h:fB (kJ z L) (Sum.inl n)=some v):eG H z.P (.int n) (some v):=by
 have q:=eG.rd (k:=Sum.inl n) B.papers;rw[h]at q;exact q
theorem NY{ks:List Nat}{ns:List Int}(h:Pb.fK ks ns):Vbptae.ints (ns.map Int.toNat)=ns:=og λx hx=>by have:=Pb.pX ns ks h.1 h.2 x hx;omega
theorem ER{ks:List Nat}{ns:List Int}(h:Pb.fK ks ns):ns.map V.int=bv (ns.map Int.toNat):=by unfold bv;rw[NY h]
end
def HS(T:Tx K mg base):Sp:=λvs H Q _=>∃(z:Ad)(s:State)(L:List Paper)(M:List Deed)(n:Int)(r:Addr)(ns:List Int),vs=[.ref z.b,.int n,.ref r]/\QX T z s L M H/\cG K H r (ns.map V.int)/\ns.length<=100/\qN T z s L M (.day n ns) H Q
theorem DV(T:Tx K mg base):Ok P w base 10 T.xU (HS T):=by
 have nd:=wa.nd;refine T.xU.ok wa λH vs Q E hr h=>?_
 obtain⟨z,s,L,M,n,r,ns,rfl,B,fh,hn,k⟩:=h;have hu:=ft hr;refine⟨_,(af (bt (cZ (cR (pc T.sF (mV T) hr (ag (aF (pv 0) rfl) (av 2 ah))))) (au (aH (a7 (ag (bX rfl T.fH) ah)))) aQ)
   (af (bt (cS (cH hu (pv 1) (aF (pv 0) rfl))) (au (aH (a7 (ag (bX rfl T.dz) ah)))) aQ)
   (af (sl 3 nd (eJ hu (aF (pv 0) rfl) (pv 1) (λ_ _=>rfl)))
   (af (sl 4 nd (cu cQ (by rfl) T.gT boot_tuple (av 2 ah)))
   (af (bt (bB (vg hu) (pv 4) (aF (pv 3) rfl) (by with_unfolding_all rfl)) (au (aH (a7 (ag (bX rfl T.eQ) ah)))) aQ)
   (au (aH (dr iH (a7 (ag aC ah)) (pc T.h9 (jt T) hr (av 0 (av 3 (av 4 ah)))))))))))),?_⟩
 have act:=Pb.xN s B.wf.k1 n ns;refine⟨_,rfl,_,_,_,_,_,rfl,B.ins,T.bM.cl,T.cJ,fC,_,rfl,z.L,r,s.sizes,ns,rfl,cG.of B.fq,fh,B.k8,hn,λH1 s1=>⟨_,rfl,gS (λh1=>?_) (λh1=>?_)⟩⟩
 ·exact⟨one_le,k.one (by rw[act,aw h1]) s1.kp (B.same s1)⟩
 rw[az h1]at act;have B1:=B.same s1;refine⟨_,rfl,_,rfl,_,_,_,_,_,rfl,B1.ins,T.bM.cl,T.aI,bc,z.P,_,rfl,eG.rd (k:=Sum.inl n) B1.papers,_,rfl,?_⟩;rcases B1.look n with⟨g1,g2⟩|⟨p,hp,rfl,g1,g2⟩
 ·rw[g2]
  rw[g1]at act;dsimp only at act;exact gU ⟨one_le,k.one (by rw[act]) s1.kp B1⟩
 rw[g2];rw[g1]at act;dsimp only at act;refine iZ ?_;refine⟨_,rfl,_,_,_,_,_,rfl,B1.ins,T.bM.cl,T.aI,bc,_,rfl,z.P,_,rfl,B1.get g2,?_⟩;refine⟨_,rfl,r,_,rfl,.inl ⟨s1.seq fh,λt ht=>?_⟩⟩;rw[ER h1];have s2:=s1.trans (aS.new (o:=.tup (bv (ns.map Int.toNat))) ht);generalize Lo:upd H1 t (.tup (bv (ns.map Int.toNat)))=H2 at s2;have et:H2 t=some (.tup (bv (ns.map Int.toNat))):=by rw[<-Lo];exact ai
 have B2:=B.same s2;obtain⟨dx,dt,bl,nm,wd,pu,R⟩:=B2.paper p hp;obtain⟨cs,nt,vF⟩:=R.boxes;refine⟨_,rfl,_,rfl,_,_,_,_,_,rfl,R.ins,T.Paper.cl,T.cC,fS,bl,t,cs,Vbptae.ints (ns.map Int.toNat),p.boxes.map Vbptae.ints,rfl,rfl,cG.of nt,c8.of et,vF.lB,_,rfl,?_⟩;rw[az rfl,iS];refine kK (λh2=>?_) (λh2=>?_)
 ·exact⟨one_le,k.one (by rw[act,aw (by simpa using h2)]) s2.kp B2⟩
 rw[az (by simpa using h2)]at act;refine⟨one_le,λl0 Df=>?_⟩;have s3:=aS.new (o:=.lst [V.int 0]) Df;have B3:=B2.same s3;refine⟨_,rfl,_,rfl,_,rfl,z,s,L,M,p,z.pa p.num,z.nd p.num,t,ns.map Int.toNat,rfl,B3,B3.paper p hp,.inl ⟨hp,rfl⟩,c8.of (s3 _ _ et),λH4 l1 k4 B4 e4=>?_⟩;refine⟨l0,l1,_,_,rfl,rfl,k4 _ _ ai rfl,e4,(by show 1+(3+1)<=sizeLine;decide),λl2 rH=>k.ret (e:=0::(Vbptae.shown (dayIn s p (ns.map Int.toNat)).1++ [((dayIn s p (ns.map Int.toNat)).2:Int)])) (by rw[act];rfl) ((s2.trans s3).kp.trans (k4.trans (aS.new rH).kp)) (B4.same (aS.new rH)) ai⟩
def tK(T:Tx K mg base)(c:Int->Call):Sp:=λvs H Q _=>∃(z:Ad)(s:State)(L:List Paper)(M:List Deed)(n:Int),vs=[.ref z.b,.int n]/\QX T z s L M H/\qN T z s L M (c n) H Q
theorem Ce(T:Tx K mg base):Ok P w base 10 T.u4 (tK T Call.days):=by
 have nd:=tO.nd;refine T.u4.ok tO λH vs Q E hr h=>?_
 obtain⟨z,s,L,M,n,rfl,B,k⟩:=h;have hu:=ft hr;refine⟨_,(af (bt (cS (cH hu (pv 1) (aF (pv 0) rfl))) (au (aH (a7 (ag (bX rfl T.dz) ah)))) aQ)
   (af (sl 2 nd (eJ hu (aF (pv 0) rfl) (pv 1) (λ_ _=>rfl)))
   (af (sl 3 nd (a7 (ag (bQ cK (by rfl) T.gz bH (ag (aF (pv 2) rfl) ah)) ah)))
   (af (lG cX rfl (iq (aF (pv 2) rfl)) (gl 4 nd) (au (fR (oM bV d7 d6 jN (pv 3) (ag (pc T.h9 (jt T) hr (av 0 (av 2 (av 4 ah)))) ah)))))
   (au (aH (pv 3))))))),?_⟩
 have act:=Pb.uQ s n;refine⟨_,rfl,_,rfl,_,_,_,_,_,rfl,B.ins,T.bM.cl,T.aI,bc,z.P,_,rfl,eG.rd (k:=Sum.inl n) B.papers,_,rfl,?_⟩;rcases B.look n with⟨g1,g2⟩|⟨p,hp,rfl,g1,g2⟩
 ·rw[g2]
  rw[g1]at act;dsimp only at act;exact gU ⟨one_le,k.one (by rw[act]) (Kp.refl _) B⟩
 rw[g2];rw[g1]at act;dsimp only at act;refine iZ ?_;obtain⟨dx,dt,bl,nm,wd,pu,R⟩:=B.paper p hp;obtain⟨cs,nt,vF⟩:=R.boxes;have lcs:(cs.map V.ref).length=p.boxes.length:=by rw[ab,vF.1]
 have T9:=(B.pw hp).b2
 refine⟨_,rfl,_,_,_,_,_,rfl,B.ins,T.bM.cl,T.aI,bc,_,rfl,z.P,_,rfl,B.get g2,?_⟩;refine⟨_,rfl,_,_,_,_,_,rfl,R.ins,T.Paper.cl,T.cC,fS,bl,_,rfl,.inl (cG.of nt),one_le,λtd Dc=>?_⟩;have s1:=aS.new (o:=.lst [V.int (((cs.map V.ref).length:Nat):Int)]) Dc
 rw[lcs]at s1⊢;generalize QZ:upd H td (.lst [V.int ((p.boxes.length:Nat):Int)])=H1 at s1;have NQ:H1 td=some (.lst [V.int ((p.boxes.length:Nat):Int)]):=by rw[<-QZ];exact ai
 have B1:=B.same s1;refine⟨_,rfl,_,_,_,_,_,rfl,s1 _ _ R.ins,T.Paper.cl,T.cC,fS,bl,rfl,⟨_,cG.of (s1 _ _ nt)⟩,mH (n:=p.boxes.length) (λi σ H'=>∃v4:Option V,Kp H H'/\QX T z s L M H'/\H' td=some (.lst (((p.boxes.length:Int)::(p.boxes.take i).flatMap λb=>Vbptae.shown (dayIn s p b).1++ [((dayIn s p b).2:Int)]).map V.int))/\σ=[some (.ref z.b),some (.int (p.num:Nat)),some (.ref (z.pa p.num)),some (.ref td),v4])
  ⟨none,s1.kp,B1,NQ,rfl⟩ (λi σ H' hi⟨_,h,_⟩=>jR (fM (h _ _ nt rfl)) (by rw[lcs];exact hi)) (λσ H'⟨_,h,_⟩=>by have q:=gr (fM (K:=K) (h _ _ nt rfl));rw[lcs]at q;exact q) ?_ ?_⟩
 ·rintro i x σ H2 H3 hi ⟨v4,k2,B2,e2,rfl⟩ y
  obtain⟨rfl,hx⟩:=iz (fM (k2 _ _ nt rfl)) y;obtain⟨c,hc,rfl⟩:=fW hx;have hb:p.boxes[i]?=some p.boxes[i]:=ae hi;generalize p.boxes[i]=b at hb;refine⟨_,rfl,.inl ⟨rfl,_,cG.of e2⟩,_,rfl,_,rfl,_,rfl,z,s,L,M,p,z.pa p.num,z.nd p.num,c,b,rfl,B2,B2.paper p hp,.inl ⟨hp,rfl⟩,c8.of (k2 _ _ (vF.2 i c b hc hb) rfl),λH4 l1 k4 B4 e4=>?_⟩;have Xh:=k4 _ _ e2 rfl;refine⟨td,l1,_,_,rfl,rfl,Xh,e4,?_,some (.ref c),?_,?_,?_,rfl⟩
  ·rw[ab,aq,ab]
   have q:=Pb.hX (k:=4) (l:=p.boxes.take i) (f:=λb=>Vbptae.shown (dayIn s p b).1++ [((dayIn s p b).2:Int)]) λa _=>ay _
   rw[bW]at q;have q3:(Vbptae.shown (dayIn s p b).1++ [((dayIn s p b).2:Int)]).length=4:=rfl
   rw[bo,q3];omega
  ·exact(k2.trans k4).gG Dc
  ·exact B.list (k2.trans k4) B4 Dc (.inr ⟨_,Xh⟩)
  ·rw[ai,take_snoc hb,E3,<-aZ]
   simp
 ·rintro σ H2 ⟨v4,k2,B2,e2,rfl⟩
  rw[cM]at e2;exact⟨_,rfl,k.ret (by rw[act]) k2 B2 e2⟩
def HR(T:Tx K mg base):Sp:=λvs H Q _=>∃(z:Ad)(s:State)(L:List Paper)(M:List Deed)(n q:Int)(r:Addr)(ns:List Int),vs=[.ref z.b,.int n,.int q,.ref r]/\QX T z s L M H/\cG K H r (ns.map V.int)/\ns.length<=100/\qN T z s L M (.why n q ns) H Q
theorem DU(T:Tx K mg base):Ok P w base 8 T.xT (HR T):=by
 refine T.xT.ok DA λH vs Q E hr h=>?_
 obtain⟨z,s,L,M,n,q,r,ns,rfl,B,fh,hn,k⟩:=h;have hu:=ft hr;refine⟨_,(af (bt (cZ (cR (pc T.sF (mV T) hr (ag (aF (pv 0) rfl) (av 3 ah))))) (au (aH (a7 (ag (bX rfl T.fH) ah)))) aQ)
   (af (bt (PW.pt (mS (cS (cH hu (pv 1) (aF (pv 0) rfl))) (mw (cS (cH hu (pv 2) (aF (pv 0) rfl)))))) (au (aH (a7 (ag (bX rfl T.dz) ah)))) aQ)
   (au (aH (a7 (ag (pc T.qx (uh T) hr (av 0 (ag (eJ hu (aF (pv 0) rfl) (pv 1) (λ_ _=>rfl)) (ag (eJ hu (aF (pv 0) rfl) (pv 2) (λ_ _=>rfl)) (ag (cu cQ (by rfl) T.gT boot_tuple (av 3 ah)) ah))))) ah)))))),?_⟩
 have act:=Pb.xM s B.wf.k1 n q ns;refine⟨_,rfl,_,_,_,_,_,rfl,B.ins,T.bM.cl,T.cJ,fC,_,rfl,z.L,r,s.sizes,ns,rfl,cG.of B.fq,fh,B.k8,hn,λH1 s1=>⟨_,rfl,gS (λh1=>?_) (λh1=>?_)⟩⟩
 ·exact⟨one_le,k.one (by rw[act,aw h1]) s1.kp (B.same s1)⟩
 rw[az h1]at act;have B1:=B.same s1;dsimp only[xV];refine vG (oQ ?_);refine mU (!(fB (kJ z L) (Sum.inl n)).isSome) (!(fB (kJ z L) (Sum.inl q)).isSome) (λQ' q'=>⟨_,rfl,_,rfl,_,_,_,_,_,rfl,B1.ins,T.bM.cl,T.aI,bc,z.P,_,rfl,eG.rd (k:=Sum.inl n) B1.papers,_,rfl,q'⟩) (λ_ Q' q'=>⟨_,rfl,_,rfl,_,_,_,_,_,rfl,B1.ins,T.bM.cl,T.aI,bc,z.P,_,rfl,eG.rd (k:=Sum.inl q) B1.papers,_,rfl,q'⟩) ?_
 rcases B1.look n with⟨g1,g2⟩|⟨p,hp,rfl,g1,g2⟩
 ·rw[g2]
  rw[g1]at act;dsimp only at act;exact gU ⟨one_le,k.one (by rw[act]) s1.kp B1⟩
 rw[g1]at act;dsimp only at act;rcases B1.look q with⟨g3,g4⟩|⟨r2,JH,rfl,g3,g4⟩
 ·rw[g2,g4]
  rw[g3]at act;dsimp only at act;exact gU ⟨one_le,k.one (by rw[act]) s1.kp B1⟩
 rw[g3]at act;dsimp only at act;rw[g2,g4];refine iZ ?_;refine⟨_,rfl,_,rfl,_,_,_,_,_,rfl,B1.ins,T.bM.cl,T.aI,bc,_,rfl,z.P,_,rfl,B1.get g2,_,rfl,_,_,_,_,_,rfl,B1.ins,T.bM.cl,T.aI,bc,_,rfl,z.P,_,rfl,B1.get g4,_,rfl,r,_,rfl,.inl ⟨s1.seq fh,λt ht=>?_⟩⟩;rw[ER h1];have s2:=s1.trans (aS.new (o:=.tup (bv (ns.map Int.toNat))) ht);generalize Lo:upd H1 t (.tup (bv (ns.map Int.toNat)))=H2 at s2;have et:H2 t=some (.tup (bv (ns.map Int.toNat))):=by rw[<-Lo];exact ai
 have B2:=B.same s2;refine⟨z,s,L,M,p,r2,z.pa p.num,z.nd p.num,t,ns.map Int.toNat,rfl,B2,B2.paper p hp,eW (B.vn hp),JH,c8.of et,λH3 k3 B3=>⟨one_le,k.one (by rw[act]) (s2.kp.trans k3) B3⟩⟩
theorem Aj(T:Tx K mg base):Ok P w base 6 T.rY (tK T Call.limit):=by
 refine T.rY.ok z9 λH vs Q E hr h=>?_
 obtain⟨z,s,L,M,n,rfl,B,k⟩:=h;have hu:=ft hr;refine⟨_,(af (bt (cS (cH hu (pv 1) (aF (pv 0) rfl))) (au (aH (a7 (ag (bX rfl T.dz) ah)))) aQ)
   (au (aH (dr iH (a7 (ag aC ah)) (cu dY (by rfl) T.lL boot_list (ag (pc T.uo (wG T) hr (av 0 (ag (eJ hu (aF (pv 0) rfl) (pv 1) (λ_ _=>rfl)) ah))) ah)))))),?_⟩
 have act:=Pb.qC s n;refine⟨_,rfl,_,rfl,_,_,_,_,_,rfl,B.ins,T.bM.cl,T.aI,bc,z.P,_,rfl,eG.rd (k:=Sum.inl n) B.papers,_,rfl,?_⟩;rcases B.look n with⟨g1,g2⟩|⟨p,hp,rfl,g1,g2⟩
 ·rw[g2]
  rw[g1]at act;dsimp only at act;exact gU ⟨one_le,k.one (by rw[act]) (Kp.refl _) B⟩
 rw[g2];rw[g1]at act;dsimp only at act;refine iZ ?_;refine⟨one_le,λl0 Df=>?_⟩;have s1:=aS.new (o:=.lst [V.int 0]) Df;have B1:=B.same s1;refine⟨_,rfl,_,rfl,_,_,_,_,_,rfl,B1.ins,T.bM.cl,T.aI,bc,_,rfl,z.P,_,rfl,B1.get g2,z,s,L,M,p,rfl,B1,hp,λH2 a k2 B2 e2=>?_⟩;refine⟨a,_,rfl,.inr (c8.of e2),λl1 zN=>?_⟩;have Qo:l0≠l1:=aR (k2 _ _ ai rfl) zN;refine⟨l0,l1,_,_,rfl,rfl,(by rw[aG Qo];exact k2 _ _ ai rfl),ai,(by show 1+3<=sizeLine;decide),λl2 rH=>k.ret (e:=0::Vbptae.shown (limit s p)) (by rw[act]) (s1.kp.trans (k2.trans ((aS.new zN).trans (aS.new rH)).kp)) (B2.same ((aS.new zN).trans (aS.new rH))) ai⟩
theorem yy(T:Tx K mg base):Ok P w base 3 T.o8 (tK T Call.family):=by
 refine T.o8.ok x9 λH vs Q E hr h=>?_
 obtain⟨z,s,L,M,n,rfl,B,k⟩:=h;have hu:=ft hr;refine⟨_,(af (bt (cS (cH hu (pv 1) (aF (pv 0) rfl))) (au (aH (a7 (ag (bX rfl T.dz) ah)))) aQ)
   (au (aH (dr iH (a7 (ag aC ah)) (pc T.vJ (Cg T) hr (av 0 (ag (eJ hu (aF (pv 0) rfl) (pv 1) (λ_ _=>rfl)) ah))))))),?_⟩
 have act:=Pb.ow s n;refine⟨_,rfl,_,rfl,_,_,_,_,_,rfl,B.ins,T.bM.cl,T.aI,bc,z.P,_,rfl,eG.rd (k:=Sum.inl n) B.papers,_,rfl,?_⟩;rcases B.look n with⟨g1,g2⟩|⟨p,hp,rfl,g1,g2⟩
 ·rw[g2]
  rw[g1]at act;dsimp only at act;exact gU ⟨one_le,k.one (by rw[act]) (Kp.refl _) B⟩
 rw[g2];rw[g1]at act;dsimp only at act;refine iZ ?_;refine⟨one_le,λl0 Df=>?_⟩;have s1:=aS.new (o:=.lst [V.int 0]) Df;have B1:=B.same s1;have len:(Vbptae.ints (family s p.num)).length<=24:=by unfold Vbptae.ints family;rw[ab];exact bf (Pb.sf 23 [p.num]) B.wf.pl
 refine⟨_,rfl,_,rfl,_,_,_,_,_,rfl,B1.ins,T.bM.cl,T.aI,bc,_,rfl,z.P,_,rfl,B1.get g2,z,s,L,M,p,rfl,B1,hp,λH2 l1 s2 e2=>?_⟩;refine⟨l0,l1,_,_,rfl,rfl,s2 _ _ ai,e2,(by rw[ab,bo];show 1+_<=_;omega),λl2 rH=>k.ret (e:=0::Vbptae.ints (family s p.num)) (by rw[act]) (s1.trans (s2.trans (aS.new rH))).kp (B1.same (s2.trans (aS.new rH))) ai⟩
theorem An(T:Tx K mg base):Ok P w base 11 T.r9 (tK T Call.alike):=by
 refine T.r9.ok Aa λH vs Q E hr h=>?_
 obtain⟨z,s,L,M,n,rfl,B,k⟩:=h;have hu:=ft hr;refine⟨_,(af (bt (cS (cH hu (pv 1) (aF (pv 0) rfl))) (au (aH (a7 (ag (bX rfl T.dz) ah)))) aQ)
   (au (aH (dr iH (a7 (ag aC ah)) (pc T.sV (Av T) hr (av 0 (ag (eJ hu (aF (pv 0) rfl) (pv 1) (λ_ _=>rfl)) ah))))))),?_⟩
 have act:=Pb.qG s n;refine⟨_,rfl,_,rfl,_,_,_,_,_,rfl,B.ins,T.bM.cl,T.aI,bc,z.P,_,rfl,eG.rd (k:=Sum.inl n) B.papers,_,rfl,?_⟩;rcases B.look n with⟨g1,g2⟩|⟨p,hp,rfl,g1,g2⟩
 ·rw[g2]
  rw[g1]at act;dsimp only at act;exact gU ⟨one_le,k.one (by rw[act]) (Kp.refl _) B⟩
 rw[g2];rw[g1]at act;dsimp only at act;refine iZ ?_;refine⟨one_le,λl0 Df=>?_⟩;have s1:=aS.new (o:=.lst [V.int 0]) Df;have B1:=B.same s1;have len:(Vbptae.ints (alikeFamily s p)).length<=24:=by unfold Vbptae.ints alikeFamily;rw[ab,ab];exact bf (bu _ _) B.wf.pl
 refine⟨_,rfl,_,rfl,_,_,_,_,_,rfl,B1.ins,T.bM.cl,T.aI,bc,_,rfl,z.P,_,rfl,B1.get g2,z,s,L,M,p,rfl,B1,hp,λH2 l1 k2 B2 e2=>?_⟩;refine⟨l0,l1,_,_,rfl,rfl,k2 _ _ ai rfl,e2,(by rw[ab,bo];show 1+_<=_;omega),λl2 rH=>k.ret (e:=0::Vbptae.ints (alikeFamily s p)) (by rw[act]) (s1.kp.trans (k2.trans (aS.new rH).kp)) (B2.same (aS.new rH)) ai⟩
def By(T:Tx K mg base):Sp:=λvs H Q _=>∃(z:Ad)(s:State)(L:List Paper)(M:List Deed)(q y m d:Int)(a r:Addr)(ns:List Int),vs=[.ref z.b,.int q,.ref a,.ref r]/\QX T z s L M H/\H a=some (.tup [.int y,.int m,.int d])/\cG K H r (ns.map V.int)/\ns.length<=100/\qN T z s L M (.holder q y m d ns) H Q
theorem ml{y m d:Int}(h:Pb.gu y m d): [V.int y,V.int m,V.int d]=dv (Pb.eB y m d):=by
 obtain⟨v,_⟩:=Pb.vB h;unfold Pb.eB;rw[wO v];have:=h.1;have:=h.2.2.1;have:=h.2.2.2.2.1;rw[du (by omega),du (by omega),du (by omega)]
theorem yx(T:Tx K mg base):Ok P w base 7 T.o7 (By T):=by
 have nd:=pb.nd;refine T.o7.ok pb λH vs Q E hr h=>?_
 obtain⟨z,s,L,M,q,y,m,d,a,r,ns,rfl,B,ha,fh,hn,k⟩:=h;have hu:=ft hr;refine⟨_,(af (bt (cZ (cR (pc T.j6 (hU T) hr (av 2 ah)))) (au (aH (a7 (ag (bX rfl T.i9) ah)))) aQ)
   (af (bt (cZ (cR (pc T.sF (mV T) hr (ag (aF (pv 0) rfl) (av 3 ah))))) (au (aH (a7 (ag (bX rfl T.fH) ah)))) aQ)
   (af (bt (cS (cH hu (pv 1) (aF (pv 0) rfl))) (au (aH (a7 (ag (bX rfl T.dz) ah)))) aQ)
   (af (sl 4 nd (eJ hu (aF (pv 0) rfl) (pv 1) (λ_ _=>rfl)))
   (af (sl 5 nd (cu cQ (by rfl) T.gT boot_tuple (av 3 ah)))
   (af (bt (bB (vg hu) (pv 5) (aF (pv 4) rfl) (by with_unfolding_all rfl)) (au (aH (a7 (ag (bX rfl T.eQ) ah)))) aQ)
   (au (aH (a7 (ag (pc T.qw (ug T) hr (av 0 (av 4 (av 5 (av 2 ah))))) ah)))))))))),?_⟩
 have act:=Pb.ou s B.wf.k1 q y m d ns;refine⟨_,rfl,a,y,m,d,rfl,c8.of ha,λH0 s0=>⟨_,rfl,gS (λh0=>?_) (λh0=>?_)⟩⟩
 ·exact⟨one_le,k.one (by rw[act,aw h0]) s0.kp (B.same s0)⟩
 rw[az h0]at act;have B0:=B.same s0;refine⟨_,rfl,_,_,_,_,_,rfl,B0.ins,T.bM.cl,T.cJ,fC,_,rfl,z.L,r,s.sizes,ns,rfl,cG.of B0.fq,s0.seq fh,B0.k8,hn,λH1 BK=>⟨_,rfl,gS (λh1=>?_) (λh1=>?_)⟩⟩
 ·exact⟨one_le,k.one (by rw[act,aw h1]) (s0.trans BK).kp (B0.same BK)⟩
 rw[az h1]at act;have s1:=s0.trans BK;have B1:=B.same s1;refine⟨_,rfl,_,rfl,_,_,_,_,_,rfl,B1.ins,T.bM.cl,T.aI,bc,z.P,_,rfl,eG.rd (k:=Sum.inl q) B1.papers,_,rfl,?_⟩;rcases B1.look q with⟨g1,g2⟩|⟨p,hp,rfl,g1,g2⟩
 ·rw[g2]
  rw[g1]at act;dsimp only at act;exact gU ⟨one_le,k.one (by rw[act]) s1.kp B1⟩
 rw[g2];rw[g1]at act;dsimp only at act;refine iZ ?_;refine⟨_,rfl,_,_,_,_,_,rfl,B1.ins,T.bM.cl,T.aI,bc,_,rfl,z.P,_,rfl,B1.get g2,?_⟩;refine⟨_,rfl,r,_,rfl,.inl ⟨s1.seq fh,λt ht=>?_⟩⟩;rw[ER h1];have s2:=s1.trans (aS.new (o:=.tup (bv (ns.map Int.toNat))) ht);generalize Lo:upd H1 t (.tup (bv (ns.map Int.toNat)))=H2 at s2;have et:H2 t=some (.tup (bv (ns.map Int.toNat))):=by rw[<-Lo];exact ai
 have B2:=B.same s2;obtain⟨dx,dt,bl,nm,wd,pu,R⟩:=B2.paper p hp;obtain⟨cs,nt,vF⟩:=R.boxes;refine⟨_,rfl,_,rfl,_,_,_,_,_,rfl,R.ins,T.Paper.cl,T.cC,fS,bl,t,cs,Vbptae.ints (ns.map Int.toNat),p.boxes.map Vbptae.ints,rfl,rfl,cG.of nt,c8.of et,vF.lB,_,rfl,?_⟩;rw[az rfl,iS];refine kK (λh2=>?_) (λh2=>?_)
 ·exact⟨one_le,k.one (by rw[act,aw (by simpa using h2)]) s2.kp B2⟩
 rw[az (by simpa using h2)]at act;refine⟨_,rfl,_,rfl,_,rfl,_,rfl,z,s,L,M,p,t,a,ns.map Int.toNat,Pb.eB y m d,rfl,B2,hp,c8.of et,c8.of (by rw[<-ml h0];exact s2 _ _ ha),eW (Pb.fO h0),λH3 k3 B3=>⟨one_le,k.one (by rw[act]) (s2.kp.trans k3) B3⟩⟩
def Du(T:Tx K mg base):Sp:=λvs H Q _=>∃(z:Ad)(s:State)(L:List Paper)(M:List Deed)(wh y m d:Int)(a r:Addr)(ns:List Int),vs=[.ref z.b,.int wh,.ref a,.ref r]/\QX T z s L M H/\H a=some (.tup [.int y,.int m,.int d])/\cG K H r (ns.map V.int)/\ns.length<=100/\qN T z s L M (.could wh y m d ns) H Q
theorem Al(T:Tx K mg base):Ok P w base 10 T.r6 (Du T):=by
 have nd:=qT.nd;refine T.r6.ok qT λH vs Q E hr h=>?_
 obtain⟨z,s,L,M,wh,y,m,d,a,r,ns,rfl,B,ha,fh,hn,k⟩:=h;refine⟨_,(af (bt (cZ (cR (pc T.hW (hJ T) hr (av 1 ah)))) (au (aH (a7 (ag (bX rfl T.gw) ah)))) aQ)
   (af (bt (cZ (cR (pc T.j6 (hU T) hr (av 2 ah)))) (au (aH (a7 (ag (bX rfl T.i9) ah)))) aQ)
   (af (bt (cZ (cR (pc T.sF (mV T) hr (ag (aF (pv 0) rfl) (av 3 ah))))) (au (aH (a7 (ag (bX rfl T.fH) ah)))) aQ)
   (af (sl 4 nd (cu cQ (by rfl) T.gT boot_tuple (av 3 ah)))
   (au (aH (dr iH (a7 (ag aC ah)) (pc T.h9 (jt T) hr (av 0 (ag (pc T.jv (pN T) hr (av 0 (av 1 (av 2 (av 4 ah))))) (av 4 ah))))))))))),?_⟩
 have act:=Pb.qE s B.wf.k1 wh y m d ns;refine⟨_,rfl,wh,rfl,_,rfl,gS (λhw=>?_) (λhw=>?_)⟩
 ·exact⟨one_le,k.one (by rw[act,aw hw]) (Kp.refl _) B⟩
 rw[az hw]at act;refine⟨_,rfl,a,y,m,d,rfl,c8.of ha,λH0 s0=>⟨_,rfl,gS (λh0=>?_) (λh0=>?_)⟩⟩
 ·exact⟨one_le,k.one (by rw[act,aw h0]) s0.kp (B.same s0)⟩
 rw[az h0]at act;have B0:=B.same s0;refine⟨_,rfl,_,_,_,_,_,rfl,B0.ins,T.bM.cl,T.cJ,fC,_,rfl,z.L,r,s.sizes,ns,rfl,cG.of B0.fq,s0.seq fh,B0.k8,hn,λH1 BK=>⟨_,rfl,gS (λh1=>?_) (λh1=>?_)⟩⟩
 ·exact⟨one_le,k.one (by rw[act,aw h1]) (s0.trans BK).kp (B0.same BK)⟩
 rw[az h1]at act;have s1:=s0.trans BK;refine⟨_,rfl,r,_,rfl,.inl ⟨s1.seq fh,λt ht=>?_⟩⟩;rw[ER h1];have s2:=s1.trans (aS.new (o:=.tup (bv (ns.map Int.toNat))) ht);generalize Lo:upd H1 t (.tup (bv (ns.map Int.toNat)))=H2 at s2;have et:H2 t=some (.tup (bv (ns.map Int.toNat))):=by rw[<-Lo];exact ai
 refine⟨one_le,λl0 Df=>?_⟩;have s3:=s2.trans (aS.new (o:=.lst [V.int 0]) Df);have el0:(upd H2 l0 (.lst [V.int 0])) l0=some (.lst [V.int 0]):=ai;have Xa:=(aS.new (o:=.lst [V.int 0]) Df) _ _ et;generalize upd H2 l0 (.lst [V.int 0])=H3 at s3 el0 Xa;have B3:=B.same s3;have vt:=eW (Pb.fO h0);refine⟨_,rfl,_,rfl,_,rfl,_,rfl,_,rfl,z,s,L,M,wh.toNat,a,t,Pb.eB y m d,ns.map Int.toNat,(by show [V.ref z.b,V.int wh,V.ref a,V.ref t]=_;rw[du (by omega)]),B3,(by rw[<-ml h0];exact s3 _ _ ha),vt,Xa,λH4 a4 nd4 s4 p4=>?_⟩;have B4:=B3.same s4;have lt:(kT s (Pb.eB y m d)).Pairwise (· < ·):=by
  unfold kT;rw[cy];exact B.wf.ps.filter _
 refine⟨_,rfl,z,s,L,M,Pb.jj s wh.toNat (ns.map Int.toNat) (Pb.eB y m d) (kT s (Pb.eB y m d)),a4,nd4,t,ns.map Int.toNat,rfl,B4,p4,.inr ⟨rfl,lt,λn hn=>?_,?_,vt⟩,c8.of (s4 _ _ Xa),λH5 l5 k5 B5 e5=>?_⟩
 ·obtain⟨q,hq,e⟩:=aV.mp hn
  exact⟨q,(cp.mp hq).1,e⟩
 ·show(kT s (Pb.eB y m d)).length<=24
  unfold kT;rw[ab];exact bf (bu _ _) B.wf.pl
 ·have ec:dayIn s (Pb.jj s wh.toNat (ns.map Int.toNat) (Pb.eB y m d) (kT s (Pb.eB y m d))) (ns.map Int.toNat)=could s wh.toNat (ns.map Int.toNat) (Pb.eB y m d):=by
   rw[Pb.zk (ns:=kT s (Pb.eB y m d)) λq hq=>?_]
   ·unfold dayIn;rw[Pb.pB rfl]
   ·unfold kT
    rw[aV];constructor
    ·rintro⟨q2,UD,e⟩
     have hq3:=cp.mp UD;rw[Co B.wf.ps hq hq3.1 e.symm];simpa using hq3.2
    ·intro h;exact⟨q,cp.mpr ⟨hq,by simpa using h⟩,rfl⟩
  rw[ec]at e5;refine⟨l0,l5,_,_,rfl,rfl,k5 _ _ (s4 _ _ el0) rfl,e5,(by show 1+(3+1)<=sizeLine;decide),λl6 hl6=>k.ret (e:=0::(Vbptae.shown (could s wh.toNat (ns.map Int.toNat) (Pb.eB y m d)).1++ [((could s wh.toNat (ns.map Int.toNat) (Pb.eB y m d)).2:Int)])) (by rw[act];rfl) ((s3.trans s4).kp.trans (k5.trans (aS.new hl6).kp)) (B5.same (aS.new hl6)) ai⟩
def Dt(T:Tx K mg base):Sp:=λvs H Q _=>∃(z:Ad)(s:State)(L:List Paper)(M:List Deed)(wh:Int)(r:Addr)(ns:List Int),vs=[.ref z.b,.int wh,.ref r]/\QX T z s L M H/\cG K H r (ns.map V.int)/\ns.length<=100/\qN T z s L M (.first wh ns) H Q
theorem Ak(T:Tx K mg base):Ok P w base 5 T.rZ (Dt T):=by
 have nd:=qS.nd;refine T.rZ.ok qS λH vs Q E hr h=>?_
 obtain⟨z,s,L,M,wh,r,ns,rfl,B,fh,hn,k⟩:=h;have hu:=ft hr;refine⟨_,(af (bt (cZ (cR (pc T.hW (hJ T) hr (av 1 ah)))) (au (aH (a7 (ag (bX rfl T.gw) ah)))) aQ)
   (af (bt (cZ (cR (pc T.sF (mV T) hr (ag (aF (pv 0) rfl) (av 2 ah))))) (au (aH (a7 (ag (bX rfl T.fH) ah)))) aQ)
   (af (sl 3 nd (cu cQ (by rfl) T.gT boot_tuple (av 2 ah)))
   (af (yn (i:=4) rfl nd rfl rfl (Bx rfl rfl rfl (by decide +kernel)) (i7 (aF (pv 0) rfl)) (fI (N:=["book","who","row","box","disclosing","paper"]) (sc:=aL kO) (own:=[("paper",5)]) (by decide +kernel)) (λ_ _ _ _ _=>(gl 5 nd)) (λ_ _ _ _ _=>(xw (PW.pt (nL (bB eA (gf (K:=K) rfl (pv 5) rfl) (pv 1) (bK _)) (kP (bB (G4 (K:=K) rfl hu) (pv 3) (gf (K:=K) rfl (pv 5) rfl) (by with_unfolding_all rfl))))))) (λ_ _ _ _ _=>(pv 5)))
   (au (aH (dr iH (a7 (ag aC ah)) (bQ Bh (by rfl) T.km boot_sorted (ag (oK rfl nd (iq (pv 4)) (fI (N:=["book","who","row","box","disclosing","paper"]) (sc:=aL kO) (own:=[("paper",5)]) (by decide +kernel)) (λ_ _ _ _ _=>(gl 5 nd)) (λ_ _ _ _ _=>(xw (cR (pc T.uv (wH T) hr (av 0 (av 5 (av 3 ah))))))) (λ_ _ _ _ _=>(gf (K:=K) rfl (pv 5) rfl))) ah))))))))),?_⟩
 have act:=Pb.qD s B.wf.k1 wh ns;refine⟨_,rfl,wh,rfl,_,rfl,gS (λhw=>?_) (λhw=>?_)⟩
 ·exact⟨one_le,k.one (by rw[act,aw hw]) (Kp.refl _) B⟩
 rw[az hw]at act;refine⟨_,rfl,_,_,_,_,_,rfl,B.ins,T.bM.cl,T.cJ,fC,_,rfl,z.L,r,s.sizes,ns,rfl,cG.of B.fq,fh,B.k8,hn,λH1 s1=>⟨_,rfl,gS (λh1=>?_) (λh1=>?_)⟩⟩
 ·exact⟨one_le,k.one (by rw[act,aw h1]) s1.kp (B.same s1)⟩
 rw[az h1]at act;refine⟨_,rfl,r,_,rfl,.inl ⟨s1.seq fh,λt ht=>?_⟩⟩;rw[ER h1];have s2:=s1.trans (aS.new (o:=.tup (bv (ns.map Int.toNat))) ht);generalize Lo:upd H1 t (.tup (bv (ns.map Int.toNat)))=H2 at s2;have et:H2 t=some (.tup (bv (ns.map Int.toNat))):=by rw[<-Lo];exact ai
 generalize ns.map Int.toNat=b at act et;have B2:=B.same s2;obtain⟨o,fP⟩:=B2.fP;have VQ:=B.uq;refine⟨_,rfl,_,_,_,_,_,rfl,B2.ins,T.bM.cl,T.aI,bc,z.P,o,_,rfl,fP,λD hD=>Uy (L:=L) hC hD (by omega) (λp=>p.who==wh.toNat&&p.boxes.contains b) (λq=>.ref (z.pa q.num)) (λi H' hi s=>pV (s _ _ fP) (by rw[gR];exact hi)) (λH' s=>by have q:=kh (s _ _ fP);rw[gR]at q;exact q) (λi q x H3 H4 N1 N0 hi s3 y Qw Qx=>?_) λH3 s3 e3=>?_⟩
 ·obtain⟨rfl,key,hx⟩:=y
  have ex:=nN hi hx;subst ex;have hq:q∈L:=aY hi;have B3:=B2.same s3;obtain⟨dx,dt,bl,nm,wd,pu,R⟩:=B3.paper q hq;obtain⟨cs,nt,vF⟩:=R.boxes;refine⟨rfl,sU (q.who==wh.toNat) (q.boxes.contains b) (λQ' q'=>?_) (λ_ Q' q'=>?_) (mY (λh2=>?_) (λh2=>Qx _ (aS.refl _) h2))⟩
  ·refine⟨_,rfl,_,_,_,_,_,rfl,R.ins,T.Paper.cl,T.fm,pL,_,rfl,rfl,_,rfl,?_⟩
   rw[xa,show decide ((q.who:Int)=wh)=(q.who==wh.toNat) by rw[bz,bj,fb];omega];exact q'
  ·refine⟨_,rfl,_,rfl,_,_,_,_,_,rfl,R.ins,T.Paper.cl,T.cC,fS,bl,t,cs,Vbptae.ints b,q.boxes.map Vbptae.ints,rfl,rfl,cG.of nt,c8.of (s3 _ _ et),vF.lB,_,rfl,?_⟩
   rw[aw aK,iS];exact q'
  ·exact⟨_,rfl,Qw _ (aS.refl _) h2⟩
 ·have B3:=B2.same s3
  refine⟨one_le,λl0 Df=>?_⟩;have s4:=aS.new (o:=.lst [V.int 0]) Df;have e0:(upd H3 l0 (.lst [V.int 0])) l0=some (.lst [V.int 0]):=ai;generalize upd H3 l0 (.lst [V.int 0])=H4 at s4 e0;have B4:=B3.same s4;have e4:=s4 _ _ e3;have lf:((L.filter λp=>p.who==wh.toNat&&p.boxes.contains b).map λq=>V.ref (z.pa q.num)).length=(L.filter λp=>p.who==wh.toNat&&p.boxes.contains b).length:=ab ..
  refine⟨_,rfl,D,rfl,⟨_,cG.of e4⟩,λD2 hD2=>Uy (L:=L.filter λp=>p.who==wh.toNat&&p.boxes.contains b) (BM (T:=T) (z:=z) (s:=s) (L:=L) (M:=M)) hD2 (bf (bu _ _) (by omega)) (λq=>isFirst s q b) (λq=>.int (q.num:Nat)) (λi H' hi r'=>jR (fM (r'.1 _ _ e4 rfl)) (by rw[lf];exact hi)) (λH' r'=>by have q:=gr (fM (K:=K) (r'.1 _ _ e4 rfl));rw[lf]at q;exact q) (λi q x H5 H6 N1 N0 hi r' y Qw Qx=>?_) λH5 r' e5=>?_⟩
  ·obtain⟨rfl,hx⟩:=iz (fM (r'.1 _ _ e4 rfl)) y
   rw[aW,hi]at hx;have ex:=(bw hx).symm
   subst ex;have hq:=cp.mp (aY hi);have hb:b∈q.boxes:=by have:=hq.2;rw[a6]at this;simpa using this.2
   have B5:=r'.2 B4;refine⟨rfl,_,rfl,_,rfl,_,rfl,z,s,L,M,q,t,b,rfl,B5,hq.1,hb,c8.of (r'.1 _ _ (s4 _ _ (s3 _ _ et)) rfl),λH7 k7 B7=>⟨_,rfl,mY (λh2=>?_) (λh2=>Qx H7 ⟨k7,λ_=>B7⟩ h2)⟩⟩;obtain⟨dx,dt,bl,nm,wd,pu,R⟩:=B7.paper q hq.1;exact⟨_,rfl,_,_,_,_,_,rfl,R.ins,T.Paper.cl,T.bS,df,Qw H7 ⟨k7,λ_=>B7⟩ h2⟩
  ·have B5:=r'.2 B4
   have pm:(((L.filter λp=>p.who==wh.toNat&&p.boxes.contains b).filter λq=>isFirst s q b).map λq=>((q.num:Nat):Int)).Perm (Vbptae.ints ((s.papers.filter λp=>p.who==wh.toNat&&(p.boxes.contains b&&isFirst s p b)).map λp=>p.num)):=by
    unfold Vbptae.ints;rw[bC,List.filter_filter];have ef:(λa=>isFirst s a b&&(a.who==wh.toNat&&a.boxes.contains b))=λp:Paper=>p.who==wh.toNat&&(p.boxes.contains b&&isFirst s p b):=by
     funext a
     rw[bz];simp only[a6];constructor
     ·rintro⟨g1,g2,g3⟩;exact⟨g2,g3,g1⟩
     ·rintro⟨g1,g2,g3⟩;exact⟨g3,g1,g2⟩
    rw[ef];exact(B.i6.filter _).map _
   have ll:(((L.filter λp=>p.who==wh.toNat&&p.boxes.contains b).filter λq=>isFirst s q b).map λq=>((q.num:Nat):Int)).length<=24:=by
    rw[ab];exact bf (bu _ _) (bf (bu _ _) VQ)
   refine⟨D2,_,rfl,cG.of (by rw[e5,show(λq:Paper=>V.int ((q.num:Nat):Int))=V.int ∘ λq:Paper=>((q.num:Nat):Int)from rfl,<-bC]),(by omega),λjf l oP hle hl=>?_⟩;have lt:((s.papers.filter λp=>p.who==wh.toNat&&(p.boxes.contains b&&isFirst s p b)).map λp=>p.num).Pairwise (· < ·):=by
    rw[cy];exact B.wf.ps.filter _
   have en:=kN (oP.trans pm) hle (xE lt);have ls:=oP.length_eq;subst en;have nl:l0≠l:=aR (r'.1 _ _ e0 rfl) hl;refine⟨l0,l,_,_,rfl,rfl,(by rw[aG nl];exact r'.1 _ _ e0 rfl),ai,(by rw[ab,bo];show 1+_<=_;omega),λl2 rH=>k.ret (e:=0::Vbptae.ints ((s.papers.filter λp=>p.who==wh.toNat&&(p.boxes.contains b&&isFirst s p b)).map λp=>p.num)) (by rw[act]) ((s2.trans (s3.trans s4)).kp.trans (r'.1.trans ((aS.new hl).trans (aS.new rH)).kp)) (B5.same ((aS.new hl).trans (aS.new rH))) ai⟩
def Bz(T:Tx K mg base)(f:Paper->List Int):Sp:=λvs H Q _=>∃(a nd:Addr)(p:Paper),vs=[.ref a]/\dZ T.Paper.C H a nd p/\p.boxes.length<=12/\(∀b∈p.boxes,b.length<=6)/\∀H' l,aS H H'->H' l=some (.lst ((f p).map V.int))->Q (.ref l) H'
theorem vI{bs:List Box}{k:Nat}(h:∀b∈bs,b.length<=k):∀i,(bs.take i).flatten.length<=i*k
 |0=>by simp
 |i+1=>by
  have ih:=vI h i;cases e:bs[i]? with
  |none=>
   rw[List.take_succ,e];simp only[Option.toList_none,fj];rw[gX];omega
  |some b=>
   rw[take_snoc e,List.flatten_append,aA];have:=h b (aY e);simp only[JC,List.flatten_nil,fj];rw[gX];omega
theorem wX(T:Tx K mg base):Ok P w base 1 T.nY (Bz T (λp=>(p.boxes.length:Int)::Vbptae.ints p.boxes.flatten)):=by
 have nd:=oC.nd;refine T.nY.ok oC λH vs Q E hr h=>?_
 obtain⟨a,uj,p,rfl,hp,T9,b6,k⟩:=h;refine⟨_,(af (sl 1 nd (a7 (ag (bQ cK (by rfl) T.gz bH (ag (aF (pv 0) rfl) ah)) ah)))
   (af (lG cX rfl (iq (aF (pv 0) rfl)) (gl 2 nd) (au (fR (oM bV d7 d6 jN (pv 1) (ag (cu dY (by rfl) T.lL boot_list (av 2 ah)) ah)))))
   (au (aH (pv 1))))),?_⟩
 obtain⟨dx,dt,bl,nm,wd,pu,R⟩:=hp;obtain⟨cs,nt,vF⟩:=R.boxes;have lcs:(cs.map V.ref).length=p.boxes.length:=by rw[ab,vF.1]
 refine⟨_,rfl,_,_,_,_,_,rfl,R.ins,T.Paper.cl,T.cC,fS,bl,_,rfl,.inl (cG.of nt),one_le,λtd Dc=>?_⟩;have s1:=aS.new (o:=.lst [V.int (((cs.map V.ref).length:Nat):Int)]) Dc
 rw[lcs]at s1⊢;generalize QZ:upd H td (.lst [V.int ((p.boxes.length:Nat):Int)])=H1 at s1;have NQ:H1 td=some (.lst [V.int ((p.boxes.length:Nat):Int)]):=by rw[<-QZ];exact ai
 refine⟨_,rfl,_,_,_,_,_,rfl,s1 _ _ R.ins,T.Paper.cl,T.cC,fS,bl,rfl,⟨_,cG.of (s1 _ _ nt)⟩,mH (n:=p.boxes.length) (λi σ H'=>∃v2:Option V,aS H H'/\H' td=some (.lst (((p.boxes.length:Int)::Vbptae.ints (p.boxes.take i).flatten).map V.int))/\σ=[some (.ref a),some (.ref td),v2])
  ⟨none,s1,NQ,rfl⟩ (λi σ H' hi⟨_,h,_⟩=>jR (fM (h _ _ nt)) (by rw[lcs];exact hi)) (λσ H'⟨_,h,_⟩=>by have q:=gr (fM (K:=K) (h _ _ nt));rw[lcs]at q;exact q) ?_ ?_⟩
 ·rintro i x σ H2 H3 hi ⟨v2,s2,e2,rfl⟩ y
  obtain⟨rfl,hx⟩:=iz (fM (s2 _ _ nt)) y;obtain⟨c,hc,rfl⟩:=fW hx;have hb:p.boxes[i]?=some p.boxes[i]:=ae hi;have hbm:p.boxes[i]∈p.boxes:=bL hi;generalize p.boxes[i]=b at hb hbm;refine⟨_,rfl,.inl ⟨rfl,_,cG.of e2⟩,_,rfl,c,_,rfl,.inr (c8.of (s2 _ _ (vF.2 i c b hc hb))),λl1 zN=>?_⟩;have n1:td≠l1:=aR e2 zN;refine⟨td,l1,_,_,rfl,rfl,(by rw[aG n1];exact e2),ai,?_,some (.ref c),?_,?_,rfl⟩
  ·have q:=vI b6 i
   have q2:=b6 b hbm;unfold bv Vbptae.ints;rw[ab,aq,ab,ab,ab,bo];omega
  ·exact(s2.trans (aS.new zN)).gG Dc
  ·rw[ai,take_snoc hb,List.flatten_append]
   unfold bv Vbptae.ints;simp
 ·rintro σ H2 ⟨v2,s2,e2,rfl⟩
  rw[cM]at e2;exact⟨_,rfl,k H2 td s2 e2⟩
def BY(p:Paper):List Int:=match p.out with
 |none=>[0]
 |some o=>1::Vbptae.shown o.1++ [if o.2=true then 1 else 0]
def u6(p:Paper):List Int:=match p.shown with
 |none=>[0]
 |some x=>1::Vbptae.shown x
theorem Ai(T:Tx K mg base):Ok P w base 1 T.rW (Bz T BY):=by
 refine T.rW.ok zZ λH vs Q E hr h=>?_
 obtain⟨a,uj,p,rfl,hp,T9,b6,k⟩:=h;refine⟨_,(af (bt (cS (FQ (aF (pv 0) rfl))) (au (aH (a7 (ag aC ah)))) aQ)
   (au (aH (dr iH (dr iH (a7 (ag aC ah)) (cu dY (by rfl) T.lL boot_list (ag (aF (pv 0) rfl) ah))) (a7 (ag (yt (cR (aF (pv 0) rfl)) aC aC) ah)))))),?_⟩
 obtain⟨dx,dt,bl,nm,wd,pu,R⟩:=hp;have ho:=R.out;refine⟨_,rfl,_,_,_,_,_,rfl,R.ins,T.Paper.cl,T.cV,gF,_,rfl,?_⟩;cases j7:p.out with
 |none=>
  rw[j7]at ho;have e:wd=.fL:=ho;rw[e,aJ rfl];refine gU ⟨one_le,λl hl=>k _ l (aS.new hl) ?_⟩;unfold BY;rw[j7,ai];rfl
 |some o=>
  rw[j7]at ho;obtain⟨d,e1,e2⟩:=ho;subst e1;rw[aD (by intro q;cases q)];refine iZ ?_;refine⟨one_le,λl0 Df=>?_⟩;have s0:=aS.new (o:=.lst [V.int 1]) Df;refine⟨_,rfl,_,_,_,_,_,rfl,s0 _ _ R.ins,T.Paper.cl,T.cV,gF,d,_,rfl,.inr (c8.of (s0 _ _ e2)),λl1 zN=>?_⟩;have s1:=aS.new (o:=.lst (dv o.1)) zN;have Qo:l0≠l1:=aR ai zN;refine⟨l0,l1,_,_,rfl,rfl,(by rw[aG Qo];exact ai),ai,(by show 1+3<=sizeLine;decide),λl2 rH=>?_⟩;have s2:=s0.trans (s1.trans (aS.new (o:=.lst ([V.int 1]++dv o.1)) rH));have e3:upd (upd (upd H l0 (.lst [V.int 1])) l1 (.lst (dv o.1))) l2 (.lst ([V.int 1]++dv o.1)) l2=some (.lst ([V.int 1]++dv o.1)):=ai;generalize upd (upd (upd H l0 (.lst [V.int 1])) l1 (.lst (dv o.1))) l2 (.lst ([V.int 1]++dv o.1))=H3 at s2 e3;refine⟨_,rfl,_,_,_,_,_,rfl,s2 _ _ R.ins,T.Paper.cl,T.fT,pM,_,rfl,?_⟩;rw[j7];have fin:∀c:Int,c=(if o.2=true then 1 else 0)->∀l3,H3 l3=none->∃l b xs zs,V.ref l2=V.ref l/\V.ref l3=V.ref b/\(upd H3 l3 (.lst [V.int c])) l=some (.lst xs)/\(upd H3 l3 (.lst [V.int c])) b=some (.lst zs)/\xs.length+zs.length<=sizeLine/\∀p,(upd H3 l3 (.lst [V.int c])) p=none->Q (.ref p) (upd (upd H3 l3 (.lst [V.int c])) p (.lst (xs++zs))):=λc hc l3 NJ=>by
   have VL:l2≠l3:=aR e3 NJ;refine⟨l2,l3,_,_,rfl,rfl,by rw[aG VL];exact e3,ai,by show 4+1<=sizeLine;decide,λl4 Wz=>k _ l4 (s2.trans ((aS.new NJ).trans (aS.new Wz))) ?_⟩
   unfold BY;rw[j7,ai,hc];simp only[aZ,aT,kr];rfl
  refine mY (λh1=>?_) (λh1=>?_)
  ·exact⟨one_le,fin 1 (by rw[az (show o.2=true from h1)])⟩
  ·exact⟨one_le,fin 0 (by rw[aw (by rw[show o.2=false from h1];decide)])⟩
theorem yA(T:Tx K mg base):Ok P w base 1 T.pG (Bz T u6):=by
 refine T.pG.ok yb λH vs Q E hr h=>?_
 obtain⟨a,uj,p,rfl,hp,T9,b6,k⟩:=h;refine⟨_,(af (bt (cS (FQ (aF (pv 0) rfl))) (au (aH (a7 (ag aC ah)))) aQ)
   (au (aH (dr iH (a7 (ag aC ah)) (cu dY (by rfl) T.lL boot_list (ag (aF (pv 0) rfl) ah)))))),?_⟩
 obtain⟨dx,dt,bl,nm,wd,pu,R⟩:=hp;have ho:=R.shown;refine⟨_,rfl,_,_,_,_,_,rfl,R.ins,T.Paper.cl,T.dE,jq,_,rfl,?_⟩;cases j7:p.shown with
 |none=>
  rw[j7]at ho;have e:pu=.fL:=ho;rw[e,aJ rfl];refine gU ⟨one_le,λl hl=>k _ l (aS.new hl) ?_⟩;unfold u6;rw[j7,ai];rfl
 |some o=>
  rw[j7]at ho;obtain⟨d,e1,e2⟩:=ho;subst e1;rw[aD (by intro q;cases q)];refine iZ ?_;refine⟨one_le,λl0 Df=>?_⟩;have s0:=aS.new (o:=.lst [V.int 1]) Df;refine⟨_,rfl,_,_,_,_,_,rfl,s0 _ _ R.ins,T.Paper.cl,T.dE,jq,d,_,rfl,.inr (c8.of (s0 _ _ e2)),λl1 zN=>?_⟩;have Qo:l0≠l1:=aR ai zN;refine⟨l0,l1,_,_,rfl,rfl,(by rw[aG Qo];exact ai),ai,(by show 1+3<=sizeLine;decide),λl2 rH=>k _ l2 (s0.trans ((aS.new zN).trans (aS.new rH))) ?_⟩
  unfold u6;rw[j7,ai];rfl
theorem Kz(p:Paper):(BY p).length<=5:=by unfold BY;split<;>(try rename_i o _)<;>simp[Vbptae.shown]
theorem FF(p:Paper):(u6 p).length<=4:=by unfold u6;split<;>simp[Vbptae.shown]
theorem Cb(T:Tx K mg base):Ok P w base 2 T.u0 (tK T Call.told):=by
 have nd:=tM.nd;refine T.u0.ok tM λH vs Q E hr h=>?_
 obtain⟨z,s,L,M,n,rfl,B,k⟩:=h;have hu:=ft hr;refine⟨_,(af (bt (cS (cH hu (pv 1) (aF (pv 0) rfl))) (au (aH (a7 (ag (bX rfl T.dz) ah)))) aQ)
   (af (sl 2 nd (eJ hu (aF (pv 0) rfl) (pv 1) (λ_ _=>rfl)))
   (af (sl 3 nd (dr iH (dr iH (a7 (ag (aF (pv 2) rfl) ah)) (cu dY (by rfl) T.lL boot_list (ag (aF (pv 2) rfl) ah))) (a7 (ag (aF (pv 2) rfl) ah))))
   (af (fR (oM bV d7 d6 jN (pv 3) (ag (pc T.nY (wX T) hr (av 2 ah)) ah)))
   (af (fR (oM bV d7 d6 jN (pv 3) (ag (dr iH (a7 (ag (bQ jU (by rfl) T.gz bH (ag (aF (pv 2) rfl) ah)) ah)) (bQ (sQ rfl) (by rfl) T.km boot_sorted (ag (aF (pv 2) rfl) ah))) ah)))
   (au (aH (dr iH (dr iH (pv 3) (pc T.rW (Ai T) hr (av 2 ah))) (pc T.pG (yA T) hr (av 2 ah)))))))))),?_⟩
 have act:=Pb.uO s n;refine⟨_,rfl,_,rfl,_,_,_,_,_,rfl,B.ins,T.bM.cl,T.aI,bc,z.P,_,rfl,eG.rd (k:=Sum.inl n) B.papers,_,rfl,?_⟩;rcases B.look n with⟨g1,g2⟩|⟨p,hp,rfl,g1,g2⟩
 ·rw[g2]
  rw[g1]at act;dsimp only at act;exact gU ⟨one_le,k.one (by rw[act]) (Kp.refl _) B⟩
 rw[g2];rw[g1]at act;dsimp only at act;refine iZ ?_;obtain⟨dx,dt,bl,nm,wd,pu,R⟩:=B.paper p hp;have pw:=B.pw hp;have b6:∀b∈p.boxes,b.length<=6:=λb hb=>by rw[pw.bx b hb];exact B.wf.k2
 refine⟨_,rfl,_,_,_,_,_,rfl,B.ins,T.bM.cl,T.aI,bc,_,rfl,z.P,_,rfl,B.get g2,?_⟩;refine⟨_,rfl,_,_,_,_,_,rfl,R.ins,T.Paper.cl,T.fm,pL,one_le,λl0 Df=>?_⟩;have s0:=aS.new (o:=.lst [V.int (p.who:Nat)]) Df;refine⟨_,rfl,_,_,_,_,_,rfl,s0 _ _ R.ins,T.Paper.cl,T.bG,dN,dt,_,rfl,.inr (c8.of (s0 _ _ R.date)),λl1 zN=>?_⟩;have Qo:l0≠l1:=aR ai zN;refine⟨l0,l1,_,_,rfl,rfl,(by rw[aG Qo];exact ai),ai,(by show 1+3<=sizeLine;decide),λl2 rH=>?_⟩;have s2:=s0.trans ((aS.new (o:=.lst (dv p.day)) zN).trans (aS.new (o:=.lst ([V.int (p.who:Nat)]++dv p.day)) rH))
 have e2:upd (upd (upd H l0 (.lst [V.int (p.who:Nat)])) l1 (.lst (dv p.day))) l2 (.lst ([V.int (p.who:Nat)]++dv p.day)) l2=some (.lst ([V.int (p.who:Nat)]++dv p.day)):=ai;generalize upd (upd (upd H l0 (.lst [V.int (p.who:Nat)])) l1 (.lst (dv p.day))) l2 (.lst ([V.int (p.who:Nat)]++dv p.day))=H2 at s2 e2;refine⟨_,rfl,_,_,_,_,_,rfl,s2 _ _ R.ins,T.Paper.cl,T.de,ir,one_le,λl3 NJ=>?_⟩;have VL:l2≠l3:=aR e2 NJ;refine⟨l2,l3,_,_,rfl,rfl,(by rw[aG VL];exact e2),ai,(by show 4+1<=sizeLine;decide),λtd Dc=>?_⟩;have s4:=s2.trans ((aS.new (o:=.lst [V.int (p.parent:Nat)]) NJ).trans (aS.new (o:=.lst (([V.int (p.who:Nat)]++dv p.day)++ [V.int (p.parent:Nat)])) Dc))
 have ntd:H td=none:=(s2.trans (aS.new (o:=.lst [V.int (p.parent:Nat)]) NJ)).free Dc
 have e4:upd (upd H2 l3 (.lst [V.int (p.parent:Nat)])) td (.lst (([V.int (p.who:Nat)]++dv p.day)++ [V.int (p.parent:Nat)])) td=some (.lst ((([(p.who:Int)]++Vbptae.shown p.day)++ [(p.parent:Int)]).map V.int)):=by rw[ai];rfl
 generalize upd (upd H2 l3 (.lst [V.int (p.parent:Nat)])) td (.lst (([V.int (p.who:Nat)]++dv p.day)++ [V.int (p.parent:Nat)]))=H4 at s4 e4;have B4:=B.same s4;refine⟨_,rfl,.inl ⟨rfl,_,cG.of e4⟩,_,rfl,z.pa p.num,z.nd p.num,p,rfl,B4.paper p hp,pw.b2,b6,λH5 l5 s5 e5=>?_⟩;have fl:(Vbptae.ints p.boxes.flatten).length<=72:=by
  have q:=vI b6 p.boxes.length;rw[cM]at q;unfold Vbptae.ints;rw[ab];have:=pw.b2;omega
 refine⟨td,l5,_,_,rfl,rfl,s5 _ _ e4,e5,(by rw[ab,ab,aq,bo];show 5+_<=_;omega),?_⟩;have s6:aS H (upd H5 td (.lst (((([(p.who:Int)]++Vbptae.shown p.day)++ [(p.parent:Int)]).map V.int)++(((p.boxes.length:Int)::Vbptae.ints p.boxes.flatten).map V.int)))):=(s4.trans s5).gG ntd
 have e6:upd H5 td (.lst (((([(p.who:Int)]++Vbptae.shown p.day)++ [(p.parent:Int)]).map V.int)++(((p.boxes.length:Int)::Vbptae.ints p.boxes.flatten).map V.int))) td=some (.lst (((([(p.who:Int)]++Vbptae.shown p.day)++ [(p.parent:Int)])++((p.boxes.length:Int)::Vbptae.ints p.boxes.flatten)).map V.int)):=by rw[ai,<-aZ]
 generalize upd H5 td (.lst (((([(p.who:Int)]++Vbptae.shown p.day)++ [(p.parent:Int)]).map V.int)++(((p.boxes.length:Int)::Vbptae.ints p.boxes.flatten).map V.int)))=H6 at s6 e6
 have lnm:(fF nm).length=p.names.length:=by unfold fF;rw[ab,R.perm.length_eq]
 refine⟨_,rfl,.inl ⟨rfl,_,cG.of e6⟩,_,rfl,_,_,_,_,_,rfl,s6 _ _ R.ins,T.Paper.cl,T.cq,fE,z.nd p.num,_,rfl,s6 _ _ R.named,one_le,λl7 hl7=>?_⟩;rw[lnm];have s7:=s6.trans (aS.new (o:=.lst [V.int ((p.names.length:Nat):Int)]) hl7);have e7:upd H6 l7 (.lst [V.int ((p.names.length:Nat):Int)]) l7=some (.lst [V.int ((p.names.length:Nat):Int)]):=ai;have e6':=(aS.new (o:=.lst [V.int ((p.names.length:Nat):Int)]) hl7) _ _ e6;generalize upd H6 l7 (.lst [V.int ((p.names.length:Nat):Int)])=H7 at s7 e7 e6';refine⟨_,rfl,_,_,_,_,_,rfl,s7 _ _ R.ins,T.Paper.cl,T.cq,fE,z.nd p.num,fF nm,Vbptae.ints nm,rfl,.inl (s7 _ _ R.named),(by unfold fF Vbptae.ints;rw[bC,bC];rfl),(by unfold Vbptae.ints;rw[ab,R.perm.length_eq];have:=pw.nl;omega),λjf l8 Me hle Tn=>?_⟩;have Q5:jf=Vbptae.ints p.names:=kN (Me.trans (by unfold Vbptae.ints;exact R.perm.map _)) hle (xE pw.nm);subst Q5;have ln:(Vbptae.ints p.names).length<=8:=by unfold Vbptae.ints;rw[ab];exact pw.nl
 have n78:l7≠l8:=aR e7 Tn;have s8:=aS.new (o:=.lst ((Vbptae.ints p.names).map V.int)) Tn
 refine⟨l7,l8,_,_,rfl,rfl,(by rw[aG n78];exact e7),ai,(by rw[ab,bo];show 1+_<=_;omega),λl9 hl9=>?_⟩;have s9:=s8.trans (aS.new (o:=.lst ([V.int ((p.names.length:Nat):Int)]++(Vbptae.ints p.names).map V.int)) hl9)
 have e9:upd (upd H7 l8 (.lst ((Vbptae.ints p.names).map V.int))) l9 (.lst ([V.int ((p.names.length:Nat):Int)]++(Vbptae.ints p.names).map V.int)) l9=some (.lst (((p.names.length:Int)::Vbptae.ints p.names).map V.int)):=ai
 generalize upd (upd H7 l8 (.lst ((Vbptae.ints p.names).map V.int))) l9 (.lst ([V.int ((p.names.length:Nat):Int)]++(Vbptae.ints p.names).map V.int))=H9 at s9 e9
 have Xg:=s9 _ _ e6';refine⟨td,l9,_,_,rfl,rfl,Xg,e9,(by rw[ab,ab,aA,aq,aq,bo];show(5+_)+_<=_;omega),?_⟩;have Rz:aS H (upd H9 td (.lst ((((([(p.who:Int)]++Vbptae.shown p.day)++ [(p.parent:Int)])++((p.boxes.length:Int)::Vbptae.ints p.boxes.flatten)).map V.int)++(((p.names.length:Int)::Vbptae.ints p.names).map V.int)))):=(s7.trans s9).gG ntd
 have e10:upd H9 td (.lst ((((([(p.who:Int)]++Vbptae.shown p.day)++ [(p.parent:Int)])++((p.boxes.length:Int)::Vbptae.ints p.boxes.flatten)).map V.int)++(((p.names.length:Int)::Vbptae.ints p.names).map V.int))) td=some (.lst ((((([(p.who:Int)]++Vbptae.shown p.day)++ [(p.parent:Int)])++((p.boxes.length:Int)::Vbptae.ints p.boxes.flatten))++((p.names.length:Int)::Vbptae.ints p.names)).map V.int)):=by rw[ai,<-aZ]
 generalize upd H9 td (.lst ((((([(p.who:Int)]++Vbptae.shown p.day)++ [(p.parent:Int)])++((p.boxes.length:Int)::Vbptae.ints p.boxes.flatten)).map V.int)++(((p.names.length:Int)::Vbptae.ints p.names).map V.int)))=H10 at Rz e10
 have B10:=B.same Rz;refine⟨_,rfl,_,rfl,z.pa p.num,z.nd p.num,p,rfl,B10.paper p hp,pw.b2,b6,λH11 l11 Ry e11=>?_⟩;have lo:=Kz p;have lsh:=FF p;refine⟨td,l11,_,_,rfl,rfl,Ry _ _ e10,e11,(by rw[ab,ab,aA,aA,aq,aq,bo];show((5+_)+_)+_<=_;omega),λVR WA=>?_⟩;rw[<-aZ];have BJ:=Ry.trans (aS.new (o:=.lst ((((((([(p.who:Int)]++Vbptae.shown p.day)++ [(p.parent:Int)])++((p.boxes.length:Int)::Vbptae.ints p.boxes.flatten))++((p.names.length:Int)::Vbptae.ints p.names)))++BY p).map V.int)) WA)
 have e12:upd H11 VR (.lst ((((((([(p.who:Int)]++Vbptae.shown p.day)++ [(p.parent:Int)])++((p.boxes.length:Int)::Vbptae.ints p.boxes.flatten))++((p.names.length:Int)::Vbptae.ints p.names)))++BY p).map V.int)) VR=some (.lst ((((((([(p.who:Int)]++Vbptae.shown p.day)++ [(p.parent:Int)])++((p.boxes.length:Int)::Vbptae.ints p.boxes.flatten))++((p.names.length:Int)::Vbptae.ints p.names)))++BY p).map V.int)):=ai
 have B12:=B10.same BJ;refine⟨_,rfl,z.pa p.num,z.nd p.num,p,rfl,B12.paper p hp,pw.b2,b6,λH13 l13 FK e13=>?_⟩;refine⟨VR,l13,_,_,rfl,rfl,FK _ _ e12,e13,(by rw[ab,ab,aA,aA,aA,aq,aq,bo];show(((5+_)+_)+_)+_<=_;omega),λl14 To=>?_⟩;rw[<-aZ];refine k.ret ?_ (Rz.trans (BJ.trans (FK.trans (aS.new To)))).kp (B12.same (FK.trans (aS.new To))) ai
 rw[act];unfold BY u6;first|(simp;done)|(simp;cases p.out<;>cases p.shown<;>rfl)
def gp(s:State)(p ro:Paper)(q i:Nat):List (Nat×Nat):=((List.range i).map λi=>(i,(earliest s (Pb.dropName q ro) (p.boxes.getD i [])).1)).filter λx=>(earliest s ro (p.boxes.getD x.1 [])).1 != x.2
theorem IA(s:State)(p ro:Paper)(q i:Nat):gp s p ro q (i+1)=gp s p ro q i++(if(earliest s ro (p.boxes.getD i [])).1 != (earliest s (Pb.dropName q ro) (p.boxes.getD i [])).1 then [(i,(earliest s (Pb.dropName q ro) (p.boxes.getD i [])).1)]else []):=by
 unfold gp;rw[zR,aZ,tm,List.map_singleton,dQ,zT]
theorem KS(s:State)(p ro:Paper)(q i:Nat):(gp s p ro q i).length<=i:=by
 unfold gp;refine bf (bu _ _) ?_;rw[ab,JB];exact ay _
def Fy(T:Tx K mg base):Sp:=λvs H Q _=>∃(z:Ad)(s:State)(L:List Paper)(M:List Deed)(n q:Int),vs=[.ref z.b,.int n,.int q]/\QX T z s L M H/\qN T z s L M (.lost n q) H Q
theorem Cc(T:Tx K mg base):Ok P w base 9 T.u1 (Fy T):=by
 have nd:=tN.nd;refine T.u1.ok tN λH vs Q E hr h=>?_
 obtain⟨z,s,L,M,n,q,rfl,B,k⟩:=h;have hu:=ft hr;refine⟨_,(af (bt (PW.pt (mS (cS (cH hu (pv 1) (aF (pv 0) rfl))) (mw (cS (cH hu (pv 2) (aF (pv 0) rfl)))))) (au (aH (a7 (ag (bX rfl T.dz) ah)))) aQ)
   (af (sl 3 nd (eJ hu (aF (pv 0) rfl) (pv 1) (λ_ _=>rfl)))
   (af (sl 4 nd (pc T.xu (yz T) hr (av 0 (av 3 ah))))
   (af (sl 5 nd (pc T.nA (wW T) hr (av 4 (av 2 ah))))
   (af (sl 6 nd (a7 (ag aC ah)))
   (af (lG cX rfl (Nf rfl T.ET (ag (aF (pv 3) rfl) ah)) (Km rfl (mT (gl 7 nd) (mT (gl 8 nd) BQ))) (af (sl 9 nd (cA dg (pc T.sP (mW T) hr (av 0 (av 5 (av 8 ah)))) aC (λ_ _=>rfl)))
   (au (bt (bB (Qb hr.units) (pv 9) (cA dg (pc T.sP (mW T) hr (av 0 (av 4 (av 8 ah)))) aC (λ_ _=>rfl)) (bK _)) (af (fR (oM bV kX kW qu (pv 6) (av 7 ah)))
   (au (fR (oM bV d7 d6 jN (pv 6) (ag (cu dY (by rfl) T.lL boot_list (av 9 ah)) ah))))) aQ))))
   (au (aH (pv 6))))))))),?_⟩
 have act:=Pb.uP s n q;refine vG (oQ ?_);refine mU (!(fB (kJ z L) (Sum.inl n)).isSome) (!(fB (kJ z L) (Sum.inl q)).isSome) (λQ' q'=>⟨_,rfl,_,rfl,_,_,_,_,_,rfl,B.ins,T.bM.cl,T.aI,bc,z.P,_,rfl,eG.rd (k:=Sum.inl n) B.papers,_,rfl,q'⟩) (λ_ Q' q'=>⟨_,rfl,_,rfl,_,_,_,_,_,rfl,B.ins,T.bM.cl,T.aI,bc,z.P,_,rfl,eG.rd (k:=Sum.inl q) B.papers,_,rfl,q'⟩) ?_
 rcases B.look n with⟨g1,g2⟩|⟨p,hp,rfl,g1,g2⟩
 ·rw[g2]
  rw[g1]at act;dsimp only at act;exact gU ⟨one_le,k.one (by rw[act]) (Kp.refl _) B⟩
 rw[g1]at act;dsimp only at act;rcases B.look q with⟨g3,g4⟩|⟨r2,JH,rfl,g3,g4⟩
 ·rw[g2,g4]
  rw[g3]at act;dsimp only at act;exact gU ⟨one_le,k.one (by rw[act]) (Kp.refl _) B⟩
 rw[g3]at act;dsimp only at act;rw[g2,g4];refine iZ ?_;refine⟨_,rfl,_,_,_,_,_,rfl,B.ins,T.bM.cl,T.aI,bc,_,rfl,z.P,_,rfl,B.get g2,?_⟩;refine⟨_,rfl,_,rfl,z,s,L,M,p,z.pa p.num,z.nd p.num,rfl,B,B.paper p hp,.inr ⟨hp,rfl⟩,λa' OC hr h0 QM=>?_⟩;generalize Wd:root s PAPERS p=ro at hr h0 QM;have roL:ro∈L:=QM.elim id λe=>by rw[e];exact hp
 have lost:=Pb.Nv B.wf.ps (B.mem.mp hp) Wd (B.mem.mp roL) r2.num;have Ov:=B.pw roL;refine⟨_,rfl,_,rfl,a',OC,ro,r2.num,rfl,hr,λH1 a5 nd5 s1 p5=>?_⟩;refine⟨one_le,λtd Dc=>?_⟩;have BJ:=aS.new (o:=.lst [V.int 0]) Dc;have NQ:upd H1 td (.lst [V.int 0]) td=some (.lst [V.int 0]):=ai;generalize upd H1 td (.lst [V.int 0])=H2 at BJ NQ;have B1:=B.same s1;have UC:=hr.kp s1.kp;obtain⟨dx,dt,bl,nm,wd,pu,R⟩:=B1.paper p hp;obtain⟨cs,nt,vF⟩:=R.boxes;have lcs:(cs.map V.ref).length=p.boxes.length:=by rw[ab,vF.1]
 have T9:=(B.pw hp).b2
 have Xl:qJ s z L (bare (Pb.dropName r2.num ro)) a5:=.inr ⟨h0,Ov.nm.filter _,λn hn=>Ov.ne n (cp.mp hn).1,bf (bu _ _) (bf Ov.nl (by decide)),eW Ov.day⟩
 have dT:∀b,dayIn s (bare (Pb.dropName r2.num ro)) b=earliest s (Pb.dropName r2.num ro) b:=λb=>by unfold dayIn;rw[Pb.pB (show(bare (Pb.dropName r2.num ro)).parent=0 from h0)];rfl
 have dR:∀b,dayIn s ro b=earliest s ro b:=λb=>by unfold dayIn;rw[Pb.pB h0]
 have Xm:qJ s z L ro a':=.inr ⟨h0,Ov.nm,Ov.ne,bf Ov.nl (by decide),eW Ov.day⟩;refine⟨_,rfl,_,_,_,_,_,rfl,BJ _ _ R.ins,T.Paper.cl,T.cC,fS,bl,_,rfl,cG.of (BJ _ _ nt),mH (n:=p.boxes.length) (λi σ H'=>∃v7 v8 v9:Option V,Kp H1 H'/\QX T z s L M H'/\H' td=some (.lst ((0::(gp s p ro r2.num i).flatMap λx=>(x.1:Int)::Vbptae.shown x.2).map V.int))/\σ=[some (.ref z.b),some (.int (p.num:Nat)),some (.int (r2.num:Nat)),some (.ref (z.pa p.num)),some (.ref a'),some (.ref a5),some (.ref td),v7,v8,v9])
  ⟨none,none,none,BJ.kp,B1.same BJ,NQ,rfl⟩ (λi σ H' hi⟨_,_,_,h,_⟩=>?_) (λσ H'⟨_,_,_,h,_⟩=>?_) ?_ ?_⟩
 ·exact⟨_,_,fM (h _ _ nt rfl),ae (by rw[lcs];exact hi)⟩
 ·exact⟨_,fM (h _ _ nt rfl),by rw[lcs];exact ay _⟩
 ·rintro i x σ H3 H4 hi ⟨v7,v8,v9,k3,B3,e3,rfl⟩ ⟨tp,xb,rfl,htp,rfl,hx⟩
  have hx:=hx _ (fM (k3 _ _ nt rfl));obtain⟨c,hc,rfl⟩:=fW hx;have hb:p.boxes[i]?=some p.boxes[i]:=ae hi;have UN:p.boxes.getD i []=p.boxes[i]:=by rw[aE,hb];rfl
  rw[IA,UN];generalize p.boxes[i]=b at hb;have s4:=aS.new (o:=.tup [V.int (i:Nat),.ref c]) htp;have et:upd H3 tp (.tup [V.int (i:Nat),.ref c]) tp=some (.tup [V.int (i:Nat),.ref c]):=ai;have ktd:H3 td=some _:=e3;generalize upd H3 tp (.tup [V.int (i:Nat),.ref c])=H4 at s4 et;have k4:Kp H1 H4:=k3.trans s4.kp;have B4:=B3.same s4;have TB:=k4 _ _ (vF.2 i c b hc hb) rfl;refine⟨tp,_,rfl,c8.of et,rfl,_,_,rfl,_,_,rfl,rfl,?_⟩;refine⟨_,rfl,_,rfl,_,rfl,z,s,L,M,bare (Pb.dropName r2.num ro),a5,nd5,c,b,rfl,B4,p5.kp k4,Xl,c8.of TB,λH5 t5 UZ k5 B5 ht5 Tz vd5=>?_⟩;rw[dT]at ht5 Tz vd5;refine⟨_,_,_,_,rfl,rfl,c8.of ht5,rfl,?_⟩;dsimp only[m5];refine oQ ?_;have SX:=k4.trans k5;refine⟨_,rfl,_,rfl,_,rfl,_,rfl,z,s,L,M,ro,a',OC,c,b,rfl,B5,UC.kp SX,Xm,c8.of (k5 _ _ TB rfl),λH6 t6 dt6 k6 B6 ht6 Tw vd6=>?_⟩;rw[dR]at ht6 Tw vd6;refine⟨_,_,_,_,rfl,rfl,c8.of ht6,rfl,?_⟩;have OL:=k6 _ _ Tz rfl;refine⟨_,_,.tup (c8.of OL) (uB _),.tup (c8.of Tw) (uB _),xY _,xY _,_,rfl,?_⟩;have VT:=SX.trans k6;have e6:H6 td=some _:=(s4.kp.trans (k5.trans k6)) _ _ e3 rfl;rw[show(!PyData.eqv (.tuple ((Vbptae.shown (earliest s (Pb.dropName r2.num ro) b).1).map PyData.int)) (.tuple ((Vbptae.shown (earliest s ro b).1).map PyData.int)))=((earliest s ro b).1 != (earliest s (Pb.dropName r2.num ro) b).1) by
   simp only[PyData.eqv,za];rw[bz];simp only[f6,lQ,bne_iff_ne,ne_eq];exact⟨λh e=>h (by rw[e]),λh e=>h (mM vd5 vd6 e).symm⟩]
  refine mY (λh1=>?_) (λh1=>?_)
  ·rw[az h1]
   have ll:=KS s p ro r2.num i;have lf:((gp s p ro r2.num i).flatMap λx=>(x.1:Int)::Vbptae.shown x.2).length<=i*4:=bf (Pb.hX (k:=4) λa _=>ay _) (Nat.mul_le_mul_right _ ll)
   refine⟨_,rfl,.inl ⟨rfl,_,cG.of e6⟩,_,rfl,td,_,_,rfl,rfl,e6,(by rw[ab,aq];exact jL (by omega)),?_⟩;have k7:Kp H1 (upd H6 td (.lst ((0::(gp s p ro r2.num i).flatMap λx=>(x.1:Int)::Vbptae.shown x.2).map V.int++ [V.int (i:Nat)]))):=VT.gG Dc
   have B7:QX T z s L M (upd H6 td (.lst ((0::(gp s p ro r2.num i).flatMap λx=>(x.1:Int)::Vbptae.shown x.2).map V.int++ [V.int (i:Nat)]))):=B1.list VT B6 Dc (.inr ⟨_,e6⟩)
   have e7:upd H6 td (.lst ((0::(gp s p ro r2.num i).flatMap λx=>(x.1:Int)::Vbptae.shown x.2).map V.int++ [V.int (i:Nat)])) td=some (.lst ((0::(gp s p ro r2.num i).flatMap λx=>(x.1:Int)::Vbptae.shown x.2).map V.int++ [V.int (i:Nat)])):=ai
   have Tv:upd H6 td (.lst ((0::(gp s p ro r2.num i).flatMap λx=>(x.1:Int)::Vbptae.shown x.2).map V.int++ [V.int (i:Nat)])) UZ=some (.tup (dv (earliest s (Pb.dropName r2.num ro) b).1)):=(Kt.lst e6) _ _ OL
   generalize upd H6 td (.lst ((0::(gp s p ro r2.num i).flatMap λx=>(x.1:Int)::Vbptae.shown x.2).map V.int++ [V.int (i:Nat)]))=H7 at k7 B7 e7 Tv
   refine⟨_,rfl,.inl ⟨rfl,_,cG.of e7⟩,_,rfl,UZ,_,rfl,.inr (c8.of Tv),λl8 Tn=>?_⟩;have n8:td≠l8:=aR e7 Tn;have s8:=aS.new (o:=.lst (dv (earliest s (Pb.dropName r2.num ro) b).1)) Tn
   refine⟨td,l8,_,_,rfl,rfl,(by rw[aG n8];exact e7),ai,(by rw[aA,ab,aq,bo];show _+1+3<=_;omega),some (.int (i:Nat)),some (.ref c),some (.ref UZ),?_,?_,?_,rfl⟩
   ·exact(k7.trans s8.kp).gG Dc
   ·exact B1.list (k7.trans s8.kp) (B7.same s8) Dc (.inr ⟨_,by rw[aG n8];exact e7⟩)
   ·rw[ai,E3]
    unfold dv;simp
  ·rw[aw (by rw[h1];decide),fj]
   exact⟨some (.int (i:Nat)),some (.ref c),some (.ref UZ),VT,B6,e6,rfl⟩
 ·rintro σ H3 ⟨v7,v8,v9,k3,B3,e3,rfl⟩
  refine⟨_,rfl,k.ret ?_ (s1.kp.trans k3) B3 e3⟩;rw[act,lost];rfl
theorem CS{ks:List Nat}{lo:Nat}{ns:List Int}(h:Pb.cT ks lo ns):(Pb.cw ks ns).map Vbptae.ints=Pb.cut ks.length (ns.length/ks.length) ns:=by
 unfold Pb.cw;rw[bC];have e:∀l:List (List Int),(∀b∈l,∀x∈b,(0:Int)<=x)->l.map (Vbptae.ints ∘ λb=>b.map Int.toNat)=l:=by
  intro l
  induction l with
  |nil=>intro _;rfl
  |cons b l ih=>
   intro hb;rw[aT,ih λb xH=>hb b (ao _ xH)];show Vbptae.ints (b.map Int.toNat)::l=b::l;rw[og (hb b ax)]
 refine e _ λb hb x hx=>?_
 have:=Pb.yX h.1 h.2.2.2.1 b hb x hx;omega
theorem zB.boxes{H:Hp}{as:List Addr}{ks:List Nat}{lo:Nat}{ns:List Int}(g:Pb.cT ks lo ns)(h:zB H as (Pb.cut ks.length (ns.length/ks.length) ns)):tj H as (Pb.cw ks ns):=by
 rw[<-CS g]at h;refine⟨by rw[h.1,ab],λi a b h1 h2=>?_⟩;exact h.2 i a (Vbptae.ints b) h1 (by rw[aW,h2];rfl)
theorem Bg:∀{ks':List (List Int)}{days:List Nat},(∀k∈ks',∃t∈days,k=Vbptae.shown t)->∃D:List Nat,ks'=D.map Vbptae.shown/\∀t∈D,t∈days
 | [],_,_=>⟨[],rfl,λt ht=>nomatch ht⟩
 |k::ks',days,h=>by
  obtain⟨D,e,m⟩:=Bg (ks':=ks') (days:=days) λk hk=>h k (ao _ hk)
  obtain⟨t,ht,ek⟩:=h k ax;exact⟨t::D,by rw[aT,<-e,ek],λx hx=>(aB.mp hx).elim (λq=>by rw[q];exact ht) (m x)⟩
theorem DI{s:State}:∀(f:Nat)(p:Paper),p∈s.papers->root s f p∈s.papers
 |0,_,h=>h
 |f+1,p,h=>by
  rw[root];split
  ·exact h
  ·split
   ·rename_i q e
    exact DI f q (ku e)
   ·exact h
theorem Dm{s:State}(W:Pb.Wf s){p:Paper}(hp:VN p.day)(b:Box):VN (earliest s p b).1:=by
 have gen:∀(l:List Paper)(x:Nat×Nat),(∀q∈l,q∈s.papers)->VN x.1->VN (l.foldl (Pb.fQ s p b) x).1:=by
  intro l
  induction l with
  |nil=>intro x _ h;exact h
  |cons q l ih=>
   intro x hl h;rw[dh];refine ih _ (λq hq=>hl q (ao _ hq)) ?_;unfold Pb.fQ;split
   ·exact eW (W.pw q (hl q ax)).day
   ·exact h
 exact gen s.papers (p.day,p.num) (λ_ h=>h) hp
theorem JS{s:State}(W:Pb.Wf s){p:Paper}(hp:p∈s.papers)(b:Box):VN (dayIn s p b).1:=Dm W (eW (W.pw _ (DI _ _ hp)).day) b
def Dv(T:Tx K mg base):Sp:=λvs H Q _=>∃(z:Ad)(s:State)(L:List Paper)(M:List Deed)(n:Int)(r:Addr)(ns:List Int),vs=[.ref z.b,.int n,.ref r]/\QX T z s L M H/\cG K H r (ns.map V.int)/\ns.length<=100/\qN T z s L M (.claim n ns) H Q
theorem Am(T:Tx K mg base):Ok P w base 9 T.r8 (Dv T):=by
 have nd:=qU.nd;refine T.r8.ok qU λH vs Q E hr h=>?_
 obtain⟨z,s,L,M,n,r,ns,rfl,B,fh,hn,k⟩:=h;have hu:=ft hr;refine⟨_,(af (bt (cZ (cR (pc T.lr (kQ T) hr (ag (aF (pv 0) rfl) (av 2 (ag aC ah)))))) (au (aH (a7 (ag (bX rfl T.fH) ah)))) aQ)
   (af (bt (cS (cH hu (pv 1) (aF (pv 0) rfl))) (au (aH (a7 (ag (bX rfl T.dz) ah)))) aQ)
   (af (sl 3 nd (eJ hu (aF (pv 0) rfl) (pv 1) (λ_ _=>rfl)))
   (af (sl 4 nd (pc T.lK (kf T) hr (ag (aF (pv 0) rfl) (av 2 ah))))
   (af (bt (cZ (cR (pc T.iR (jM T) hr (av 3 (av 4 ah))))) (au (aH (a7 (ag (bX rfl T.eQ) ah)))) aQ)
   (af (yn (i:=5) rfl nd rfl rfl (Bx rfl rfl rfl (by decide +kernel)) (iq (pv 4)) (fI (N:=["book","n","row","paper","boxes","days","different","told","day","box"]) (sc:=aL nG) (own:=[("box",9)]) (by decide +kernel)) (λ_ _ _ _ _=>(gl 9 nd)) (λ_ _ _ _ _=>jn) (λ_ _ _ _ _=>(cA (Hf (K:=K) rfl) (pc T.sP (mW T) hr (av 0 (av 3 (av 9 ah)))) aC (λ_ _=>rfl))))
   (af (sl 6 nd (bQ (EG rfl hr.units) (by rfl) T.km boot_sorted (ag (cu (Bk rfl hr.units) (by rfl) T.LY boot_set (av 5 ah)) ah)))
   (af (sl 7 nd (a7 (ag (bQ cK (by rfl) T.gz bH (av 6 ah)) ah)))
   (af (lG cX rfl (iq (pv 6)) (gl 8 nd) (au (fR (oM bV d7 d6 jN (pv 7) (ag (dr iH (cu dY (by rfl) T.lL boot_list (av 8 ah)) (a7 (ag (oM bV PySem.F.slot_list_count PySem.F.type_list_count (Iy hr.units) (pv 5) (av 8 ah)) ah))) ah)))))
   (au (aH (pv 7)))))))))))),?_⟩
 have act:=Pb.qF s n ns;refine⟨_,rfl,_,_,_,_,_,rfl,B.ins,T.bM.cl,T.cJ,fC,_,rfl,z.L,r,s.sizes,ns,1,rfl,cG.of B.fq,fh,B.wf.k1,B.wf.k2,B.k8,hn,λH1 s1=>⟨_,rfl,gS (λh1=>?_) (λh1=>?_)⟩⟩
 ·exact⟨one_le,k.one (by rw[act,aw h1]) s1.kp (B.same s1)⟩
 rw[az h1]at act;have B1:=B.same s1;refine⟨_,rfl,_,rfl,_,_,_,_,_,rfl,B1.ins,T.bM.cl,T.aI,bc,z.P,_,rfl,eG.rd (k:=Sum.inl n) B1.papers,_,rfl,?_⟩;rcases B1.look n with⟨g1,g2⟩|⟨p,hp,rfl,g1,g2⟩
 ·rw[g2]
  rw[g1]at act;dsimp only at act;exact gU ⟨one_le,k.one (by rw[act]) s1.kp B1⟩
 rw[g2];rw[g1]at act;dsimp only at act;refine iZ ?_;refine⟨_,rfl,_,_,_,_,_,rfl,B1.ins,T.bM.cl,T.aI,bc,_,rfl,z.P,_,rfl,B1.get g2,?_⟩;refine⟨_,rfl,_,_,_,_,_,rfl,B1.ins,T.bM.cl,T.cJ,fC,_,rfl,z.L,r,s.sizes,ns,rfl,cG.of B1.fq,s1.seq fh,B.wf.k1,B.wf.k2,hn,h1.1,λH2 lb as s2 _ eb tb=>?_⟩;have tb:=tb.boxes h1;have Uz:(Pb.cw s.sizes ns).length<=12:=by rw[Pb.eR];exact h1.2.2.1
 generalize hbs:Pb.cw s.sizes ns=bs at act tb Uz;have BJ:=s1.trans s2;have B2:=B.same BJ;refine⟨_,rfl,_,rfl,z.pa p.num,z.nd p.num,lb,p,as,bs,rfl,B2.paper p hp,cG.of eb,tb.lB,by omega,λH3 s3=>⟨_,rfl,?_⟩⟩;have B3:=B2.same s3;have FK:=BJ.trans s3;refine kK (λh2=>?_) (λh2=>?_)
 ·refine⟨one_le,k.one ?_ FK.kp B3⟩
  rw[act,aw];intro g;rw[bE.mpr λb hb=>by simpa using g b hb]at h2;cases h2
 rw[az (λb hb=>by simpa using bE.mp h2 b hb)]at act;have Q7:=s3 _ _ eb;have RX:=tb.keep s3.kl;have la:(as.map V.ref).length=bs.length:=by rw[ab,tb.1]
 refine⟨_,rfl,lb,rfl,⟨_,cG.of Q7⟩,λD hD=>SU (n:=bs.length) (BM (T:=T) (z:=z) (s:=s) (L:=L) (M:=M)) hD (by omega) (λi acc H'=>∃ds:List Addr,acc=ds.map V.ref/\zB H' ds ((bs.take i).map λb=>Vbptae.shown (dayIn s p b).1)) ?_ ⟨[],rfl,rfl,λi a m h=>by simp at h⟩ ?_ (λi H' hi r=>jR (fM (r.1 _ _ Q7 rfl)) (by rw[la];exact hi)) (λH' r=>by have q:=gr (fM (K:=K) (r.1 _ _ Q7 rfl));rw[la]at q;exact q) ?_ λH4 acc r4 e4⟨ds,ea,td⟩=>?_⟩
 ·rintro i acc H5 H6 kt ⟨ds,e1,e2,e3⟩
  exact⟨ds,e1,e2,λj a m h1 h2=>kt _ _ (e3 j a m h1 h2)⟩
 ·rintro i acc H5 hi ⟨ds,e1,e2,_⟩
  rw[e1,ab,e2,ab,bW];exact Oa _ _
 ·rintro i x H5 H6 acc N1 hi r5 ⟨ds,e1,e2,e3⟩ y kk
  obtain⟨rfl,hx⟩:=iz (fM (r5.1 _ _ Q7 rfl)) y;obtain⟨c,hc,rfl⟩:=fW hx;have hb:bs[i]?=some bs[i]:=ae hi;generalize bs[i]=b at hb;have B5:=r5.2 B3;refine⟨rfl,_,rfl,_,rfl,_,rfl,z,s,L,M,p,z.pa p.num,z.nd p.num,c,b,rfl,B5,B5.paper p hp,.inl ⟨hp,rfl⟩,c8.of (r5.1 _ _ (RX.2 i c b hc hb) rfl),λH7 t dt k7 B7 ht E9 vd=>?_⟩;refine⟨_,_,_,_,rfl,rfl,c8.of ht,rfl,kk _ H7 ⟨k7,λ_=>B7⟩ ⟨ds++ [dt],by rw[e1,aZ];rfl,?_⟩⟩;rw[take_snoc hb,aZ];refine⟨by rw[aA,aA,e2];rfl,λj a m h3 h4=>?_⟩
  by_cases hj:j<ds.length
  ·rw[bq hj]at h3
   rw[bq (by rw[<-e2];exact hj)]at h4;exact k7 _ _ (e3 j a m h3 h4) rfl
  ·have RG:j=ds.length:=by have:=(aN.mp h3).1;simp at this;omega
   subst RG;rw[bD (ay _),gY]at h3;rw[e2,bD (ay _),gY]at h4;cases h3;cases h4;exact E9
 rw[cM]at td;rw[ea]at e4;have B4:=r4.2 B3;have k14:Kp H H4:=FK.kp.trans r4.1;have O7:∀b∈bs,VN (dayIn s p b).1:=λb _=>JS B.wf (B.mem.mp hp) b
 have tdT:sX K H4 ds (bs.map λb=>Vbptae.shown (dayIn s p b).1):=td.lB
 refine⟨_,rfl,D,ds,_,rfl,cG.of e4,tdT,(by rw[ab];omega),λq o Ob ks hq So Va OI _=>?_⟩;have s5:=aS.new (o:=oO q o) hq;have eq5:upd H4 q (oO q o) q=some (oO q o):=ai;generalize upd H4 q (oO q o)=H5 at s5 eq5 Va;refine⟨q,o,Ob,ks,rfl,eq5,So,Va,λk hk=>?_,λks' RU l oP E8 t3 hl=>?_⟩
 ·obtain⟨b,_,e⟩:=aV.mp ((OI k).mp hk)
  rw[<-e];intro z;cases z
 obtain⟨D2,eD,mD⟩:=Bg (ks':=ks') (days:=bs.map λb=>(dayIn s p b).1) λk hk=>by
  obtain⟨b,hb,e⟩:=aV.mp ((OI k).mp (oP.mem_iff.mp hk))
  exact⟨_,aV.mpr ⟨b,hb,rfl⟩,e.symm⟩
 have vD:∀t∈D2,VN t:=λt ht=>by
  obtain⟨b,hb,e⟩:=aV.mp (mD t ht);rw[<-e];exact O7 b hb
 have ltD:D2.Pairwise (· < ·):=by
  have nd:ks'.Nodup:=oP.nodup_iff.mpr Va.2.2.1;rw[eD]at E8 nd;rw[cy]at E8;rw[bN,cy]at nd;have both:=E8.imp₂ (λa b h1 h2=>(⟨h1,h2⟩:HT.lexLt (Vbptae.shown b) (Vbptae.shown a)=false/\Vbptae.shown a≠Vbptae.shown b)) nd;refine List.Pairwise.imp_of_mem (λ{a b}ha hb⟨h1,h2⟩=>?_) both;rw[eY (vD b hb) (vD a ha)]at h1;have h1:¬b<a:=by simpa using h1
  have h3:a≠b:=λe=>h2 (by rw[e])
  omega
 have eD2:(bs.map λb=>(dayIn s p b).1).foldl (λl t=>putNum t l) []=D2:=Pb.y6 ltD λx=>by
  constructor
  ·intro hx;exact mD x hx
  ·intro hx
   obtain⟨b,hb,e⟩:=aV.mp hx;have m:=oP.mem_iff.mpr ((OI (Vbptae.shown (dayIn s p b).1)).mpr (aV.mpr ⟨b,hb,rfl⟩))
   rw[eD]at m;obtain⟨t,ht,et⟩:=aV.mp m;rw[<-e,<-mM (vD t ht) (O7 b hb) et];exact ht
 rw[eD2]at act;have lD:D2.length<=12:=by
  have q:=Pb.dW (l:=D2) (k:=bs.map λb=>(dayIn s p b).1) (ltD.imp λh=>a0 h) mD
  rw[ab]at q;omega
 subst eD;have s6:=s5.trans (aS.new (o:=.lst (RU.map V.ref)) hl);have el:upd H5 l (.lst (RU.map V.ref)) l=some (.lst (RU.map V.ref)):=ai;have t3':=t3.same (aS.new (o:=.lst (RU.map V.ref)) hl);generalize upd H5 l (.lst (RU.map V.ref))=H6 at s6 el t3';have l3:(RU.map V.ref).length=D2.length:=by rw[ab,t3.1,ab]
 refine⟨_,rfl,l,_,rfl,.inl (cG.of el),one_le,λRw Dc=>?_⟩;rw[l3];have s7:=aS.new (o:=.lst [V.int ((D2.length:Nat):Int)]) Dc;have NQ:upd H6 Rw (.lst [V.int ((D2.length:Nat):Int)]) Rw=some (.lst [V.int ((D2.length:Nat):Int)]):=ai;generalize upd H6 Rw (.lst [V.int ((D2.length:Nat):Int)])=H7 at s7 NQ;have B6:=B4.same s6;refine⟨_,rfl,l,rfl,⟨_,cG.of (s7 _ _ el)⟩,mH (n:=D2.length) (λi σ H'=>∃v8:Option V,aS H6 H'/\H' Rw=some (.lst (((D2.length:Int)::(D2.take i).flatMap λt=>Vbptae.shown t++ [(((bs.filter λb=>(dayIn s p b).1==t).length:Nat):Int)]).map V.int))/\σ=[some (.ref z.b),some (.int (p.num:Nat)),some (.ref r),some (.ref (z.pa p.num)),some (.ref lb),some (.ref D),some (.ref l),some (.ref Rw),v8,none])
  ⟨none,s7,NQ,rfl⟩ (λi σ H' hi⟨_,h,_⟩=>jR (fM (h _ _ el)) (by rw[l3];exact hi)) (λσ H'⟨_,h,_⟩=>by have q:=gr (fM (K:=K) (h _ _ el));rw[l3]at q;exact q) ?_ ?_⟩
 ·rintro i x σ H8 H9 hi ⟨v8,s8,e8,rfl⟩ y
  obtain⟨rfl,hx⟩:=iz (fM (s8 _ _ el)) y;obtain⟨c,hc,rfl⟩:=fW hx;have ht:D2[i]?=some D2[i]:=ae hi;have htm:D2[i]∈D2:=bL hi;generalize D2[i]=t at ht htm;have sc:=s8.AQ (t3'.2 i c _ hc (by rw[aW,ht];rfl));refine⟨_,rfl,.inl ⟨rfl,_,cG.of e8⟩,_,rfl,c,_,rfl,.inr sc,λl1 zN=>?_⟩;have s9:=aS.new (o:=.lst ((Vbptae.shown t).map V.int)) zN
  have e9:upd H9 l1 (.lst ((Vbptae.shown t).map V.int)) l1=some (.lst ((Vbptae.shown t).map V.int)):=ai
  generalize upd H9 l1 (.lst ((Vbptae.shown t).map V.int))=H10 at s9 e9
  have TX:=(s6.trans (s8.trans s9)) _ _ e4;refine⟨_,rfl,.inl ⟨rfl,_,cG.of TX⟩,_,rfl,D,c,ds,Vbptae.shown t,_,rfl,rfl,cG.of TX,s9.AQ sc,tdT.same (s6.trans (s8.trans s9)),one_le,λl2 rH=>?_⟩;have cnt:((bs.map λb=>Vbptae.shown (dayIn s p b).1).countP λm=>decide (m=Vbptae.shown t))=(bs.filter λb=>(dayIn s p b).1==t).length:=by
   rw[List.countP_map,List.countP_eq_length_filter];congr 1;refine List.filter_congr λb hb=>?_
   show decide (Vbptae.shown (dayIn s p b).1=Vbptae.shown t)=((dayIn s p b).1==t)
   rw[bz,bj,fb];exact⟨mM (O7 b hb) (vD t htm),λe=>by rw[e]⟩
  rw[cnt];have Rz:=aS.new (o:=.lst [V.int (((bs.filter λb=>(dayIn s p b).1==t).length:Nat):Int)]) rH
  have VM:l1≠l2:=aR e9 rH;refine⟨l1,l2,_,_,rfl,rfl,(by rw[aG VM];exact e9),ai,(by show 3+1<=sizeLine;decide),λl4 Wz=>?_⟩;have Ry:=(s9.trans Rz).trans (aS.new (o:=.lst ((Vbptae.shown t).map V.int++ [V.int (((bs.filter λb=>(dayIn s p b).1==t).length:Nat):Int)])) Wz)
  have e8':=Ry _ _ e8;refine⟨Rw,l4,_,_,rfl,rfl,e8',ai,?_,some (.ref c),(s8.trans Ry).gG Dc,?_,rfl⟩
  ·have q:=Pb.hX (k:=4) (l:=D2.take i) (f:=λt=>Vbptae.shown t++ [(((bs.filter λb=>(dayIn s p b).1==t).length:Nat):Int)]) λa _=>ay _
   rw[bW]at q;rw[ab,aq,bo];show _+(3+1)<=_;omega
  ·rw[ai,take_snoc ht,E3]
   simp
 ·rintro σ H8 ⟨v8,s8,e8,rfl⟩
  rw[cM]at e8;refine⟨_,rfl,k.ret (by rw[act]) (k14.trans (s6.trans s8).kp) (B6.same s8) e8⟩
theorem qN.mono{T:Tx K mg base}{z:Ad}{s:State}{L:List Paper}{M:List Deed}{c:Call}{H H1:Hp}{Q:VK}(k:qN T z s L M c H Q)(k1:Kp H H1):qN T z s L M c H1 Q:=λH' l k2 B e=>k H' l (k1.trans k2) B e
def Sk(T:Tx K mg base):Sp:=λvs H Q _=>∃(z:Ad)(s:State)(L:List Paper)(M:List Deed)(j:Nat)(a r:Addr)(x row:List Int)(n:Nat),vs=[.ref z.b,.int j,.ref a,.ref r]/\QX T z s L M H/\cG K H a (x.map V.int)/\cG K H r (row.map V.int)/\row.length<=100/\10<=j/\Pb.dS[j]?=some (x.length,n)/\qN T z s L M (Pb.sC j x row) H Q
theorem Qk(T:Tx K mg base):Ok P w base 12 T.ask (Sk T):=by
 refine T.ask.ok PN λH vs Q E hr h=>?_
 obtain⟨z,s,L,M,j,a,r,x,row,fk,rfl,B,hx,fh,hn,hj,hf,k⟩:=h;refine⟨_,(af (bt (bB eA (pv 1) aC (bK _)) (au (aH (pc T.xU (DV T) hr (av 0 (ag (cA cW (pv 2) aC (λ_ _=>rfl)) (av 3 ah)))))) aQ)
   (af (bt (bB eA (pv 1) aC (bK _)) (au (aH (pc T.u4 (Ce T) hr (av 0 (ag (cA cW (pv 2) aC (λ_ _=>rfl)) ah))))) aQ)
   (af (bt (bB eA (pv 1) aC (bK _)) (au (aH (pc T.xT (DU T) hr (av 0 (ag (cA cW (pv 2) aC (λ_ _=>rfl)) (ag (cA cW (pv 2) aC (λ_ _=>rfl)) (av 3 ah))))))) aQ)
   (af (bt (bB eA (pv 1) aC (bK _)) (au (aH (pc T.rY (Aj T) hr (av 0 (ag (cA cW (pv 2) aC (λ_ _=>rfl)) ah))))) aQ)
   (af (bt (bB eA (pv 1) aC (bK _)) (au (aH (pc T.rZ (Ak T) hr (av 0 (ag (cA cW (pv 2) aC (λ_ _=>rfl)) (av 3 ah)))))) aQ)
   (af (bt (bB eA (pv 1) aC (bK _)) (au (aH (pc T.o7 (yx T) hr (av 0 (ag (cA cW (pv 2) aC (λ_ _=>rfl)) (ag (cu cQ (by rfl) T.gT boot_tuple (ag (iP jZ (pv 2) (gQ aC) qt) ah)) (av 3 ah))))))) aQ)
   (af (bt (bB eA (pv 1) aC (bK _)) (au (aH (pc T.o8 (yy T) hr (av 0 (ag (cA cW (pv 2) aC (λ_ _=>rfl)) ah))))) aQ)
   (af (bt (bB eA (pv 1) aC (bK _)) (au (aH (pc T.r9 (An T) hr (av 0 (ag (cA cW (pv 2) aC (λ_ _=>rfl)) ah))))) aQ)
   (af (bt (bB eA (pv 1) aC (bK _)) (au (aH (pc T.u1 (Cc T) hr (av 0 (ag (cA cW (pv 2) aC (λ_ _=>rfl)) (ag (cA cW (pv 2) aC (λ_ _=>rfl)) ah)))))) aQ)
   (af (bt (bB eA (pv 1) aC (bK _)) (au (aH (pc T.r6 (Al T) hr (av 0 (ag (cA cW (pv 2) aC (λ_ _=>rfl)) (ag (cu cQ (by rfl) T.gT boot_tuple (ag (iP jZ (pv 2) (gQ aC) qt) ah)) (av 3 ah))))))) aQ)
   (af (bt (bB eA (pv 1) aC (bK _)) (au (aH (pc T.r8 (Am T) hr (av 0 (ag (cA cW (pv 2) aC (λ_ _=>rfl)) (av 3 ah)))))) aQ)
   (au (aH (pc T.u0 (Cb T) hr (av 0 (ag (cA cW (pv 2) aC (λ_ _=>rfl)) ah)))))))))))))))),?_⟩
 have fin:∀{m l:Nat},Pb.dS[m]?=some (x.length,fk)->(Pb.dS[m]?).map (·.1)=some l->x.length=l:=λe1 e2=>by rw[e1]at e2;exact bw e2
 refine⟨_,rfl,rfl,_,rfl,kg (λh=>?_) (λW6=>?_)⟩
 ·have ej:j=10:=by omega
  subst ej;obtain⟨n,rfl⟩:=Pb.nZ (fin hf rfl);exact⟨_,rfl,_,rfl,_,_,_,_,rfl,rfl,hx,rfl,_,rfl,z,s,L,M,n,r,row,rfl,B,fh,hn,k⟩
 refine⟨_,rfl,rfl,_,rfl,kg (λh=>?_) (λh11=>?_)⟩
 ·have ej:j=11:=by omega
  subst ej;obtain⟨n,rfl⟩:=Pb.nZ (fin hf rfl);exact⟨_,rfl,_,rfl,_,_,_,_,rfl,rfl,hx,rfl,z,s,L,M,n,rfl,B,k⟩
 refine⟨_,rfl,rfl,_,rfl,kg (λh=>?_) (λRO=>?_)⟩
 ·have ej:j=12:=by omega
  subst ej;obtain⟨n,q,rfl⟩:=Pb.Cq (fin hf rfl);exact⟨_,rfl,_,rfl,_,_,_,_,rfl,rfl,hx,rfl,_,rfl,_,_,_,_,rfl,rfl,hx,rfl,_,rfl,z,s,L,M,n,q,r,row,rfl,B,fh,hn,k⟩
 refine⟨_,rfl,rfl,_,rfl,kg (λh=>?_) (λh13=>?_)⟩
 ·have ej:j=13:=by omega
  subst ej;obtain⟨n,rfl⟩:=Pb.nZ (fin hf rfl);exact⟨_,rfl,_,rfl,_,_,_,_,rfl,rfl,hx,rfl,z,s,L,M,n,rfl,B,k⟩
 refine⟨_,rfl,rfl,_,rfl,kg (λh=>?_) (λh14=>?_)⟩
 ·have ej:j=14:=by omega
  subst ej;obtain⟨n,rfl⟩:=Pb.nZ (fin hf rfl);exact⟨_,rfl,_,rfl,_,_,_,_,rfl,rfl,hx,rfl,_,rfl,z,s,L,M,n,r,row,rfl,B,fh,hn,k⟩
 refine⟨_,rfl,rfl,_,rfl,kg (λh=>?_) (λh15=>?_)⟩
 ·have ej:j=15:=by omega
  subst ej;obtain⟨q,y,m,d,rfl⟩:=Pb.Ef (fin hf rfl);refine⟨_,rfl,_,rfl,_,_,_,_,rfl,rfl,hx,rfl,_,rfl,_,rfl,a,_,rfl,hx,λp hp=>⟨p,_,rfl,.inl ⟨cG.of ai,λt ht=>?_⟩⟩⟩;have s1:=(aS.new (o:=.lst (kR ([q,y,m,d].map V.int) (some 1) none)) hp).trans (aS.new (o:=.tup (kR ([q,y,m,d].map V.int) (some 1) none)) ht)
  exact⟨_,rfl,z,s,L,M,q,y,m,d,t,r,row,rfl,B.same s1,(by rw[ai];rfl),s1.seq fh,hn,k.mono s1.kp⟩
 refine⟨_,rfl,rfl,_,rfl,kg (λh=>?_) (λh16=>?_)⟩
 ·have ej:j=16:=by omega
  subst ej;obtain⟨n,rfl⟩:=Pb.nZ (fin hf rfl);exact⟨_,rfl,_,rfl,_,_,_,_,rfl,rfl,hx,rfl,z,s,L,M,n,rfl,B,k⟩
 refine⟨_,rfl,rfl,_,rfl,kg (λh=>?_) (λh17=>?_)⟩
 ·have ej:j=17:=by omega
  subst ej;obtain⟨n,rfl⟩:=Pb.nZ (fin hf rfl);exact⟨_,rfl,_,rfl,_,_,_,_,rfl,rfl,hx,rfl,z,s,L,M,n,rfl,B,k⟩
 refine⟨_,rfl,rfl,_,rfl,kg (λh=>?_) (λh18=>?_)⟩
 ·have ej:j=18:=by omega
  subst ej;obtain⟨n,q,rfl⟩:=Pb.Cq (fin hf rfl);exact⟨_,rfl,_,rfl,_,_,_,_,rfl,rfl,hx,rfl,_,rfl,_,_,_,_,rfl,rfl,hx,rfl,z,s,L,M,n,q,rfl,B,k⟩
 refine⟨_,rfl,rfl,_,rfl,kg (λh=>?_) (λh19=>?_)⟩
 ·have ej:j=19:=by omega
  subst ej;obtain⟨q,y,m,d,rfl⟩:=Pb.Ef (fin hf rfl);refine⟨_,rfl,_,rfl,_,_,_,_,rfl,rfl,hx,rfl,_,rfl,_,rfl,a,_,rfl,hx,λp hp=>⟨p,_,rfl,.inl ⟨cG.of ai,λt ht=>?_⟩⟩⟩;have s1:=(aS.new (o:=.lst (kR ([q,y,m,d].map V.int) (some 1) none)) hp).trans (aS.new (o:=.tup (kR ([q,y,m,d].map V.int) (some 1) none)) ht)
  exact⟨_,rfl,z,s,L,M,q,y,m,d,t,r,row,rfl,B.same s1,(by rw[ai];rfl),s1.seq fh,hn,k.mono s1.kp⟩
 refine⟨_,rfl,rfl,_,rfl,kg (λh=>?_) (λh20=>?_)⟩
 ·have ej:j=20:=by omega
  subst ej;obtain⟨n,rfl⟩:=Pb.nZ (fin hf rfl);exact⟨_,rfl,_,rfl,_,_,_,_,rfl,rfl,hx,rfl,_,rfl,z,s,L,M,n,r,row,rfl,B,fh,hn,k⟩
 have j22:j<22:=(aN.mp hf).1
 have ej:j=21:=by omega
 subst ej;obtain⟨n,rfl⟩:=Pb.nZ (fin hf rfl);exact⟨_,rfl,_,rfl,_,_,_,_,rfl,rfl,hx,rfl,z,s,L,M,n,rfl,B,k⟩
end
structure WX{K:c9}{mg:jB}{base:Heap}(T:Tx K mg base)(z:Ad)(s:State)(L:List Paper)(M:List Deed)(H:Hp):Prop extends BX T z s L M H where
 hP:H z.P=some (.dK (kJ z L))
 hD:H z.D=some (.dK (rK z M))
 JG:∀p∈L,∀q∈L,z.nd p.num=z.nd q.num->p.num=q.num
 C9:∀p∈L,z.nd p.num≠z.P/\z.nd p.num≠z.D
 PD:z.P≠z.D
structure KX{K:c9}{mg:jB}{base:Heap}(T:Tx K mg base)(z:Ad)(s:State)(L:List Paper)(M:List Deed)(H:Hp):Prop extends WX T z s L M H where
 eL:H z.Li=some (.dT [])
 eF:zO K H z.Fi []
section
variable{K:c9}{mg:jB}{base:Heap}{T:Tx K mg base}{z:Ad}{s:State}{L:List Paper}{M:List Deed}{H H':Hp}
theorem WX.same(e:aS H H')(B:WX T z s L M H):WX T z s L M H':=⟨B.toBX.same e,e _ _ B.hP,e _ _ B.hD,B.JG,B.C9,B.PD⟩
theorem KX.same(e:aS H H')(B:KX T z s L M H):KX T z s L M H':=⟨B.toWX.same e,e _ _ B.eL,B.eF.same e⟩
theorem jQ(s:State){a:Addr}(h:H a=some (.dT [])):rR s a H:=⟨[],h,C2,λe he=>nomatch he⟩
theorem jS(s:State){a:Addr}(h:zO K H a []):qk K s a H:=⟨[],h,λx hx=>nomatch hx⟩
theorem zO.RE{x a:Addr}(k:Ko x H H')(n:a≠x)(h:zO K H a []):zO K H' a []:=by
 obtain⟨o,es,ep,g1,g2,g3,g4,g5,g6,g7,_⟩:=h;exact⟨o,es,ep,k _ _ g1 n,g2,g3,g4,g5,g6,g7,λy hy=>nomatch hy⟩
theorem zO.ext{a:Addr}{xs:List NE}(h:zO K H a xs):∃f,H a=some (.ext f):=by
 obtain⟨o,es,ep,g1,_⟩:=h;exact⟨_,g1⟩
theorem Ko.kl{x:Addr}{u:HO}(k:Ko x H H')(hx:H x=some u)(z:sq u=false):Kl H H':=λb o e y=>k b o e λq=>by
 subst q;rw[hx]at e;cases e;rw[z]at y;cases y
theorem Ko.trans{x:Addr}{H1:Hp}(a:Ko x H H1)(b:Ko x H1 H'):Ko x H H':=λc o e n=>b c o (a c o e n) n
theorem iC.at_{lp:Pos}{x a fi:Addr}{u:HO}(k:Ko x H H')(hx:H x=some u)(n1:∀ps,u≠ .tI ps)(n2:∀f,u≠ .ext f)(h:iC lp a fi H):iC lp a fi H':=by
 obtain⟨ps,e⟩:=j9 h;exact h.ko k (cF e hx λq=>n1 _ q.symm) λc hc _=>cF hc hx λq=>n2 _ q.symm
theorem Kv{C:Addr}{a nd a' uj:Addr}{p q:Paper}(hp:dZ C H a nd p)(hq:dZ C H a' uj q)(e:a=a'):p.num=q.num:=by
 obtain⟨dx,dt,bl,nm,wd,pu,R⟩:=hp;obtain⟨sL,AB,Fb,Oz,Mq,M9,R'⟩:=hq;have h:=R.ins;rw[e,R'.ins]at h;injection h with h
 injection h with _ _ h
 have h1:List.lookup ("number":Str) (pF q.num q.who (.ref AB) (.ref Fb) q.parent (.ref uj) Mq (Ig q.out) M9)=List.lookup ("number":Str) (pF p.num p.who (.ref dt) (.ref bl) p.parent (.ref nd) wd (Ig p.out) pu):=by rw[h]
 rw[df,df]at h1;injection h1 with h1
 injection h1 with h1
 omega
theorem KX.Ol(B:KX T z s L M H){cs:List Nat}{s':State}(k:Ko z.Cd H H')(h:H' z.Cd=some (.dT (cs.map λn=>(dk n,V.bl true))))(hp:cs.Perm s'.closed)(wf:Pb.Wf s')(e1:s'.sizes=s.sizes)(e2:s'.rest=s.rest)(e3:s'.papers=s.papers)(e4:s'.deeds=s.deeds):WX T z s' L M H':=by
 obtain⟨T3,c1,_⟩:=B.closed;have kl:Kl H H':=k.kl c1 rfl;have nd:∀{a:Addr}{o:HO},H a=some o->(∀q,o≠ .dT q)->H' a=some o:=λha ho=>k _ _ ha (cF ha c1 (ho _))
 obtain⟨f,hf⟩:=B.eF.ext;refine⟨⟨wf,by rw[e3];exact B.i6,B.par,by rw[e4];exact B.iB,nd B.ins (λ_ q=>by cases q),by rw[e1];exact kl.lst B.fq,?_,⟨cs,h,hp⟩,.inl (nd B.hP λ_ q=>by cases q),.inl (nd B.hD λ_ q=>by cases q),λp hp=>?_,λd hd=>?_,jQ s' (k _ _ B.eL (fZ B.sep)),jS s' (B.eF.RE k (cF hf c1 (by intro q;cases q))),B.tab.at_ k c1 (by intro _ q;cases q) (by intro _ q;cases q),B.sep⟩,nd B.hP (λ_ q=>by cases q),nd B.hD (λ_ q=>by cases q),B.JG,B.C9,B.PD⟩
 ·rw[e2];obtain⟨rs,r1,r2⟩:=B.rest;exact⟨rs,kl.lst r1,r2⟩
 ·obtain⟨dx,dt,bl,nm,wd,pu,R⟩:=B.paper p hp
  exact⟨dx,dt,bl,nm,wd,pu,R.keep kl (λo e=>by rw[R.ins]at e;cases e;exact nd R.ins λ_ q=>by cases q) (λo e=>by rw[R.named]at e;cases e;exact nd R.named λ_ q=>by cases q)⟩
 ·obtain⟨dx,dt,bl,R⟩:=B.uD d hd
  exact⟨dx,dt,bl,nd R.ins (λ_ q=>by cases q),kl.tup R.date,R.boxes.keep kl⟩
theorem KX.MW(B:KX T z s L M H){r:Addr}{rs:List Int}{s':State}(hr:H' r=some (.lst (rs.map V.int)))(k:Ko z.b H H')(h:H' z.b=some (.ins T.bM.C z.dx (bF (.ref z.L) (.ref r) (.ref z.Cd) (.ref z.P) (.ref z.D) (.ref z.Li) (.ref z.Fi))))
  (hl:rs.length<=6)(hm:∀n:Nat,(n:Int)∈rs↔n∈s'.rest)(wf:Pb.Wf s')(e1:s'.sizes=s.sizes)(e2:s'.closed=s.closed)(e3:s'.papers=s.papers)(e4:s'.deeds=s.deeds):WX T {z with R:=r} s' L M H':=by
 have c1:=B.ins;have kl:Kl H H':=k.kl c1 rfl;have nd:∀{a:Addr}{o:HO},H a=some o->(∀C dx q,o≠ .ins C dx q)->H' a=some o:=λha ho=>k _ _ ha (cF ha c1 (ho _ _ _))
 obtain⟨f,hf⟩:=B.eF.ext;have np:∀{a:Addr}{C dx:Addr}{q:List (Str×V)},H a=some (.ins C dx q)->q.length≠7->H' a=some (.ins C dx q):=λha hq=>k _ _ ha (cF ha c1 (by intro e;injection e with _ _ e;rw[e]at hq;exact hq rfl))
 refine⟨⟨wf,by rw[e3];exact B.i6,B.par,by rw[e4];exact B.iB,h,by rw[e1];exact kl.lst B.fq,⟨rs,hr,hl,hm⟩,?_,.inl (nd B.hP λ_ _ _ q=>by cases q),.inl (nd B.hD λ_ _ _ q=>by cases q),λp hp=>?_,λd hd=>?_,jQ s' (nd B.eL λ_ _ _ q=>by cases q),jS s' (B.eF.RE k (cF hf c1 (by intro q;cases q))),B.tab.at_ k c1 (by intro _ q;cases q) (by intro _ q;cases q),B.sep⟩,nd B.hP (λ_ _ _ q=>by cases q),nd B.hD (λ_ _ _ q=>by cases q),B.JG,B.C9,B.PD⟩
 ·rw[e2];obtain⟨cs,r1,r2⟩:=B.closed;exact⟨cs,nd r1 (λ_ _ _ q=>by cases q),r2⟩
 ·obtain⟨dx,dt,bl,nm,wd,pu,R⟩:=B.paper p hp
  exact⟨dx,dt,bl,nm,wd,pu,R.keep kl (λo e=>by rw[R.ins]at e;cases e;exact np R.ins (by show 9≠7;decide)) (λo e=>by rw[R.named]at e;cases e;exact nd R.named λ_ _ _ q=>by cases q)⟩
 ·obtain⟨dx,dt,bl,R⟩:=B.uD d hd
  exact⟨dx,dt,bl,np R.ins (by show 6≠7;decide),kl.tup R.date,R.boxes.keep kl⟩
theorem KX.L5(B:KX T z s L M H){a n1:Addr}{p:Paper}{s':State}(k:Ko z.P H H')(na:H a=none)(nn:H n1=none)(hp:dZ T.Paper.C H' a n1 p)(h:H' z.P=some (.dK (kJ z L++ [((Sum.inl (p.num:Int):Key),V.ref a)])))(hn:∀q∈L,q.num≠p.num)
  (QJ:(L++ [p]).Perm s'.papers) (QL:p.parent=0\/∃q∈L,q.num=p.parent) (wf:Pb.Wf s') (e1:s'.sizes=s.sizes) (e2:s'.rest=s.rest) (e3:s'.closed=s.closed) (e4:s'.deeds=s.deeds):
  WX T {z with pa:=λi=>if i=p.num then a else z.pa i,nd:=λi=>if i=p.num then n1 else z.nd i} s' (L++ [p]) M H':=by
 have c1:=B.hP;have kl:Kl H H':=k.kl c1 rfl;have nd:∀{a:Addr}{o:HO},H a=some o->(∀q,o≠ .dK q)->H' a=some o:=λha ho=>k _ _ ha (cF ha c1 (ho _))
 obtain⟨f,hf⟩:=B.eF.ext;obtain⟨dx0,dt0,bl0,nm0,wd0,pu0,R0⟩:=id hp;have pe:kJ {z with pa:=λi=>if i=p.num then a else z.pa i,nd:=λi=>if i=p.num then n1 else z.nd i} (L++ [p])=kJ z L++ [((Sum.inl (p.num:Int):Key),V.ref a)]:=by
  unfold kJ;rw[aZ];congr 1
  ·refine gb λq hq=>?_
   simp only[aw (hn q hq)]
  ·simp
 refine⟨⟨wf,QJ,?_,by rw[e4];exact B.iB,nd B.ins (λ_ q=>by cases q),by rw[e1];exact kl.lst B.fq,?_,?_,.inl (by rw[pe];exact h),.inl (k _ _ B.hD (fZ B.PD)),λq hq=>?_,λd hd=>?_,jQ s' (nd B.eL λ_ q=>by cases q),jS s' (B.eF.RE k (cF hf c1 (by intro q;cases q))),B.tab.at_ k c1 (by intro _ q;cases q) (by intro _ q;cases q),B.sep⟩,by rw[pe];exact h,k _ _ B.hD (fZ B.PD),?_,?_,B.PD⟩
 ·intro i q hi h0
  by_cases hl:i<L.length
  ·rw[bq hl]at hi
   obtain⟨j,r,hj,hr,e⟩:=B.par i q hi h0;exact⟨j,r,hj,by rw[bq (by omega)];exact hr,e⟩
  ·have Cy:i=L.length:=by have:=(aN.mp hi).1;simp at this;omega
   subst Cy;rw[bD (ay _),gY]at hi;cases hi;obtain⟨r,hr,e⟩:=QL.resolve_left h0;obtain⟨j,hj,ej⟩:=a8.mp hr;exact⟨j,r,hj,by rw[bq hj,ae hj,ej],e⟩
 ·rw[e2];obtain⟨rs,r1,r2⟩:=B.rest;exact⟨rs,kl.lst r1,r2⟩
 ·rw[e3];obtain⟨cs,r1,r2⟩:=B.closed;exact⟨cs,nd r1 (λ_ q=>by cases q),r2⟩
 ·rcases br.mp hq with hq|hq
  ·obtain⟨dx,dt,bl,nm,wd,pu,R⟩:=B.paper q hq
   simp only[aw (hn q hq)];exact⟨dx,dt,bl,nm,wd,pu,R.keep kl (λo e=>by rw[R.ins]at e;cases e;exact nd R.ins λ_ q=>by cases q) (λo e=>k _ _ e (B.C9 q hq).1)⟩
  ·rw[aP.mp hq];simp only[dD];exact hp
 ·obtain⟨dx,dt,bl,R⟩:=B.uD d hd
  exact⟨dx,dt,bl,nd R.ins (λ_ q=>by cases q),kl.tup R.date,R.boxes.keep kl⟩
 ·intro q hq r hr e
  have old:∀q∈L,z.nd q.num≠n1:=λq hq e=>by
   obtain⟨dx,dt,bl,nm,wd,pu,R⟩:=B.paper q hq;have:=R.named;rw[e,nn]at this;cases this
  rcases br.mp hq with hq|hq<;>rcases br.mp hr with hr|hr
  ·simp only[aw (hn q hq),aw (hn r hr)]at e
   exact B.JG q hq r hr e
  ·rw[aP.mp hr]at e
   simp only[aw (hn q hq),dD]at e;exact absurd e (old q hq)
  ·rw[aP.mp hq]at e
   simp only[aw (hn r hr),dD]at e;exact absurd e.symm (old r hr)
  ·rw[aP.mp hq,aP.mp hr]
 ·intro q hq
  rcases br.mp hq with hq|hq
  ·simp only[aw (hn q hq)];exact B.C9 q hq
  ·rw[aP.mp hq]
   simp only[dD];exact⟨(λe=>by have h:=B.hP;rw[<-e,nn]at h;cases h),(λe=>by have h:=B.hD;rw[<-e,nn]at h;cases h)⟩
theorem KX.N5(B:KX T z s L M H){a:Addr}{d:Deed}{s':State}(k:Ko z.D H H')(hp:vU T.Deed.C H' a d)(h:H' z.D=some (.dK (rK z M++ [((Sum.inl (d.num:Int):Key),V.ref a)])))(hn:∀q∈M,q.num≠d.num)
  (QJ:(M++ [d]).Perm s'.deeds) (wf:Pb.Wf s') (e1:s'.sizes=s.sizes) (e2:s'.rest=s.rest) (e3:s'.closed=s.closed) (e4:s'.papers=s.papers):
  WX T {z with da:=λi=>if i=d.num then a else z.da i} s' L (M++ [d]) H':=by
 have c1:=B.hD;have kl:Kl H H':=k.kl c1 rfl;have nd:∀{a:Addr}{o:HO},H a=some o->(∀q,o≠ .dK q)->H' a=some o:=λha ho=>k _ _ ha (cF ha c1 (ho _))
 obtain⟨f,hf⟩:=B.eF.ext;have pe:rK {z with da:=λi=>if i=d.num then a else z.da i} (M++ [d])=rK z M++ [((Sum.inl (d.num:Int):Key),V.ref a)]:=by
  unfold rK;rw[aZ];congr 1
  ·refine gb λq hq=>?_
   simp only[aw (hn q hq)]
  ·simp
 refine⟨⟨wf,by rw[e4];exact B.i6,B.par,QJ,nd B.ins (λ_ q=>by cases q),by rw[e1];exact kl.lst B.fq,?_,?_,.inl (k _ _ B.hP B.PD),.inl (by rw[pe];exact h),λq hq=>?_,λq hq=>?_,jQ s' (nd B.eL λ_ q=>by cases q),jS s' (B.eF.RE k (cF hf c1 (by intro q;cases q))),B.tab.at_ k c1 (by intro _ q;cases q) (by intro _ q;cases q),B.sep⟩,k _ _ B.hP B.PD,by rw[pe];exact h,B.JG,B.C9,B.PD⟩
 ·rw[e2];obtain⟨rs,r1,r2⟩:=B.rest;exact⟨rs,kl.lst r1,r2⟩
 ·rw[e3];obtain⟨cs,r1,r2⟩:=B.closed;exact⟨cs,nd r1 (λ_ q=>by cases q),r2⟩
 ·obtain⟨dx,dt,bl,nm,wd,pu,R⟩:=B.paper q hq
  exact⟨dx,dt,bl,nm,wd,pu,R.keep kl (λo e=>by rw[R.ins]at e;cases e;exact nd R.ins λ_ q=>by cases q) (λo e=>k _ _ e (B.C9 q hq).2)⟩
 ·rcases br.mp hq with hq|hq
  ·obtain⟨dx,dt,bl,R⟩:=B.uD q hq
   simp only[aw (hn q hq)];exact⟨dx,dt,bl,nd R.ins (λ_ q=>by cases q),kl.tup R.date,R.boxes.keep kl⟩
  ·rw[aP.mp hq];simp only[dD];exact hp
theorem KX.chg(B:KX T z s L M H){p:Paper}{f:Paper->Paper}{x:Addr}{u:HO}(hp:p∈L)(hx:H x=some u)(hu:x=z.pa p.num\/x=z.nd p.num)(k:Ko x H H')(h:dZ T.Paper.C H' (z.pa p.num) (z.nd p.num) (f p))(fn:∀q,(f q).num=q.num) (fp:∀q,(f q).parent=q.parent) (wf:Pb.Wf (changed s p.num f)):
  WX T z (changed s p.num f) (L.map λq=>if q.num=p.num then f q else q) M H':=by
 obtain⟨dx,dt,bl,nm,wd,pu,R⟩:=id (B.paper p hp);have cases_:(∃C dx q,u=.ins C dx q/\q.length=9/\x=z.pa p.num)\/(∃q,u=.dK q/\x=z.nd p.num):=by
  rcases hu with e|e
  ·subst e;rw[R.ins]at hx;cases hx;exact .inl ⟨_,_,_,rfl,rfl,rfl⟩
  ·subst e;rw[R.named]at hx;cases hx;exact .inr ⟨_,rfl,rfl⟩
 have kl:Kl H H':=k.kl hx (by rcases cases_ with⟨_,_,_,e,_⟩|⟨_,e,_⟩<;>rw[e]<;>rfl);have nd:∀{a:Addr}{o:HO},H a=some o->(∀C dx q,o≠ .ins C dx q)->(∀q,o≠ .dK q)->H' a=some o:=λha h1 h2=>k _ _ ha (cF ha hx (by rcases cases_ with⟨_,_,_,e,_⟩|⟨_,e,_⟩<;>rw[e]<;>first|exact h1 _ _ _|exact h2 _))
 have VI:∀{a:Addr}{q:List (Key×V)},H a=some (.dK q)->a≠z.nd p.num->H' a=some (.dK q):=λ{a q}ha hn=>k _ _ ha (by
  rcases cases_ with⟨_,_,_,e,_⟩|⟨_,_,e⟩
  ·exact cF ha hx (by rw[e];intro w;cases w)
  ·rw[e];exact hn)
 have VH:∀{a C dx:Addr}{q:List (Str×V)},H a=some (.ins C dx q)->(q.length≠9\/a≠z.pa p.num)->H' a=some (.ins C dx q):=λ{a C dx q}ha hn=>k _ _ ha (by
  rcases cases_ with⟨C',sL,q',e,e9,ex⟩|⟨_,e,_⟩
  ·rcases hn with hn|hn
   ·exact cF ha hx (by rw[e];intro w;injection w with _ _ w;rw[w]at hn;exact hn e9)
   ·rw[ex];exact hn
  ·exact cF ha hx (by rw[e];intro w;cases w))
 obtain⟨g,hf⟩:=B.eF.ext;have num:∀q:Paper,(if q.num=p.num then f q else q).num=q.num:=λq=>by split;exact fn q;rfl
 have par:∀q:Paper,(if q.num=p.num then f q else q).parent=q.parent:=λq=>by split;exact fp q;rfl
 have pe:kJ z (L.map λq=>if q.num=p.num then f q else q)=kJ z L:=by
  unfold kJ;rw[bC];refine gb λq hq=>?_
  show((Sum.inl ((if q.num=p.num then f q else q).num:Int):Key),V.ref (z.pa (if q.num=p.num then f q else q).num))=_
  rw[num q]
 have hP':H' z.P=some (.dK (kJ z L)):=VI B.hP (λe=>(B.C9 p hp).1 e.symm)
 have hD':H' z.D=some (.dK (rK z M)):=VI B.hD (λe=>(B.C9 p hp).2 e.symm)
 have Ve:iC gq T.oW z.Fi H':=B.tab.at_ k hx (by rcases cases_ with⟨_,_,_,e,_⟩|⟨_,e,_⟩<;>rw[e]<;>intro _ w<;>cases w) (by rcases cases_ with⟨_,_,_,e,_⟩|⟨_,e,_⟩<;>rw[e]<;>intro _ w<;>cases w);have fik:z.Fi≠x:=cF hf hx (by rcases cases_ with⟨_,_,_,e,_⟩|⟨_,e,_⟩<;>rw[e]<;>intro w<;>cases w);refine⟨⟨wf,?_,?_,B.iB,VH B.ins (.inl (by show 7≠9;decide)),kl.lst B.fq,?_,?_,.inl (by rw[pe];exact hP'),.inl hD',λq hq=>?_,λd hd=>?_,jQ _ (nd B.eL (λ_ _ _ q=>by cases q) λ_ q=>by cases q),jS _ (B.eF.RE k fik),Ve,B.sep⟩,by rw[pe];exact hP',hD',?_,?_,B.PD⟩
 ·exact B.i6.map _
 ·intro i q hi h0
  rw[aW]at hi;obtain⟨q0,JI,rfl⟩:=bO.mp hi;rw[par]at h0⊢;obtain⟨j,r,hj,hr,e⟩:=B.par i q0 JI h0;exact⟨j,_,hj,by rw[aW,hr];rfl,by rw[num];exact e⟩
 ·obtain⟨rs,r1,r2⟩:=B.rest;exact⟨rs,kl.lst r1,r2⟩
 ·obtain⟨cs,r1,r2⟩:=B.closed;exact⟨cs,nd r1 (λ_ _ _ q=>by cases q) (λ_ q=>by cases q),r2⟩
 ·obtain⟨q0,JI,rfl⟩:=aV.mp hq
  by_cases e:q0.num=p.num
  ·have e2:=B.inj JI hp e
   subst e2;rw[az rfl,fn];exact h
  ·rw[aw e]
   obtain⟨sL,AB,Fb,Oz,Mq,M9,R'⟩:=B.paper q0 JI;exact⟨sL,AB,Fb,Oz,Mq,M9,R'.keep kl (λo eo=>by rw[R'.ins]at eo;cases eo;exact VH R'.ins (.inr λw=>e (Kv ⟨sL,AB,Fb,Oz,Mq,M9,R'⟩ (B.paper p hp) w))) (λo eo=>by rw[R'.named]at eo;cases eo;exact VI R'.named λw=>e (B.JG q0 JI p hp w))⟩
 ·obtain⟨sL,AB,Fb,R'⟩:=B.uD d hd
  exact⟨sL,AB,Fb,VH R'.ins (.inl (by show 6≠9;decide)),kl.tup R'.date,R'.boxes.keep kl⟩
 ·intro q hq r hr e
  obtain⟨q0,JI,rfl⟩:=aV.mp hq;obtain⟨r0,hr0,rfl⟩:=aV.mp hr;rw[num,num]at e⊢;exact B.JG q0 JI r0 hr0 e
 ·intro q hq
  obtain⟨q0,JI,rfl⟩:=aV.mp hq;rw[num];exact B.C9 q0 JI
theorem nM(f:Str)(v:V):∀l:List (Str×V),(bZ f v l).length<=l.length+1
 | []=>ay _
 |(g,x)::l=>by
  have ih:=nM f v l;unfold bZ;split
  ·simp
  ·rw[aq,aq];omega
theorem iC.fresh{lp:Pos}{a fi fi':Addr}(n:H fi'=none)(h:iC lp a fi H):iC lp a fi' H:=by
 rcases h with h|⟨c,h1,h2,_⟩
 ·exact .inl h
 ·exact .inr ⟨c,h1,h2,aR h2 n⟩
theorem WX.forget(B:WX T z s L M H){li fi:Addr}(nl:H li=none)(nf:H fi=none)(k:Ko z.b H H')(h:H' z.b=some (.ins T.bM.C z.dx (bF (.ref z.L) (.ref z.R) (.ref z.Cd) (.ref z.P) (.ref z.D) (.ref li) (.ref fi))))
  (hl:H' li=some (.dT []))(hf:zO K H' fi []):KX T {z with Li:=li,Fi:=fi} s L M H':=by
 have c1:=B.ins;have kl:Kl H H':=k.kl c1 rfl;have nd:∀{a:Addr}{o:HO},H a=some o->(∀C dx q,o≠ .ins C dx q)->H' a=some o:=λha ho=>k _ _ ha (cF ha c1 (ho _ _ _))
 have np:∀{a:Addr}{C dx:Addr}{q:List (Str×V)},H a=some (.ins C dx q)->q.length≠7->H' a=some (.ins C dx q):=λha hq=>k _ _ ha (cF ha c1 (by intro e;injection e with _ _ e;rw[e]at hq;exact hq rfl))
 obtain⟨cs,r1,r2⟩:=id B.closed;refine⟨⟨⟨B.wf,B.i6,B.par,B.iB,h,kl.lst B.fq,?_,⟨cs,nd r1 (λ_ _ _ q=>by cases q),r2⟩,.inl (nd B.hP (λ_ _ _ q=>by cases q)),.inl (nd B.hD (λ_ _ _ q=>by cases q)),λp hp=>?_,λd hd=>?_,jQ s hl,jS s hf,(B.tab.fresh nf).at_ k c1 (by intro _ q;cases q) (by intro _ q;cases q),aR r1 nl⟩,nd B.hP (λ_ _ _ q=>by cases q),nd B.hD (λ_ _ _ q=>by cases q),B.JG,B.C9,B.PD⟩,hl,hf⟩
 ·obtain⟨rs,q1,q2⟩:=B.rest;exact⟨rs,kl.lst q1,q2⟩
 ·obtain⟨dx,dt,bl,nm,wd,pu,R⟩:=B.paper p hp
  exact⟨dx,dt,bl,nm,wd,pu,R.keep kl (λo e=>by rw[R.ins]at e;cases e;exact np R.ins (by show 9≠7;decide)) (λo e=>by rw[R.named]at e;cases e;exact nd R.named (λ_ _ _ q=>by cases q))⟩
 ·obtain⟨dx,dt,bl,R⟩:=B.uD d hd
  exact⟨dx,dt,bl,np R.ins (by show 6≠7;decide),kl.tup R.date,R.boxes.keep kl⟩
theorem Ei{ks:List Nat}(W:Pb.Wf {Vbptae.start with sizes:=ks})(hb:H z.b=some (.ins T.bM.C z.dx (bF (.ref z.L) (.ref z.R) (.ref z.Cd) (.ref z.P) (.ref z.D) (.ref z.Li) (.ref z.Fi))))(hl:H z.L=some (.lst (kv ks)))(hr:H z.R=some (.lst []))
  (hc:H z.Cd=some (.dT []))(hp:H z.P=some (.dK []))(hd:H z.D=some (.dK []))(OH:H z.Li=some (.dT []))(RI:zO K H z.Fi [])(ht:iC gq T.oW z.Fi H)(n1:z.Cd≠z.Li)(n2:z.P≠z.D):KX T z {Vbptae.start with sizes:=ks} [] [] H:=
 ⟨⟨⟨W,.nil,(λi q hi=>by simp at hi),.nil,hb,hl,⟨[],hr,bp _,(λn=>by constructor<;>intro h<;>cases h)⟩,⟨[],hc,.nil⟩,.inl hp,.inl hd,(λp hp=>nomatch hp),(λp hp=>nomatch hp),jQ _ OH,jS _ RI,ht,n1⟩,hp,hd,(λp hp=>nomatch hp),(λp hp=>nomatch hp),n2⟩,OH,RI⟩
def Done(T:Tx K mg base)(z:Ad)(s:State)(c:Call)(H:Hp)(Q:VK):Prop:=∀H' l z' L' M',Kl H H'->z'.b=z.b->WX T z' (Pb.dU s (act s c)).1 L' M' H'->H' l=some (.lst ((Pb.dU s (act s c)).2.map V.int))->Q (.ref l) H'
theorem Done.put{c:Call}{H1:Hp}{Q:VK}{z':Ad}{s':State}{L':List Paper}{M':List Deed}(k:Done T z s c H Q){e:Int}(he:Pb.dU s (act s c)=(s',[e]))(kl:Kl H H1)(hz:z'.b=z.b)(B1:WX T z' s' L' M' H1):∀l,H1 l=none->Q (.ref l) (upd H1 l (.lst [.int e])):=λl hl=>
 k _ l z' L' M' (kl.trans (aS.new hl).kl) hz (by rw[he];exact B1.same (aS.new hl)) (by rw[he];exact ai)
theorem Done.no{c:Call}{H1:Hp}{Q:VK}(k:Done T z s c H Q){e:Int}(he:Pb.dU s (act s c)=(s,[e]))(s1:aS H H1)(B:KX T z s L M H):∀l,H1 l=none->Q (.ref l) (upd H1 l (.lst [.int e])):=k.put he s1.kl rfl (B.toWX.same s1)
theorem lZ{x p:Addr}{u o o':HO}(hx:H x=some u)(hp:H p=none):Ko x H (upd (upd H p o) x o')/\(upd (upd H p o) x o') x=some o'/\(upd (upd H p o) x o') p=some o/\p≠x:=by
 have n:p≠x:=λe=>by rw[e,hx]at hp;cases hp
 exact⟨λb v e nb=>by rw[aG nb,aG (aR e hp)];exact e,ai,by rw[aG n,ai],n⟩
theorem N2{fs:List (Str×V)}(h:fs=[]\/∃l r c p d li fi,fs=bF l r c p d li fi){l r c p d li fi:V}:bZ ("firsts":Str) fi (bZ ("limits":Str) li (bZ ("deeds":Str) d (bZ ("papers":Str) p (bZ ("closed_days":Str) c (bZ ("rest_days":Str) r (bZ ("leaves":Str) l fs))))))=bF l r c p d li fi:=by
 rcases h with rfl|⟨l0,r0,c0,p0,d0,li0,fi0,rfl⟩
 ·rw[show bZ ("leaves":Str) l []=[(("leaves":Str),l)]from rfl,uH,qf,Br,EU,Jq,Jr];rfl
 ·rw[rO,jV,lM,rM,uI,rN,rP]
theorem LX{fs:List (Str×V)}(h:fs=[]\/∃l r c p d li fi,fs=bF l r c p d li fi){l r c p d:V}:List.lookup ("forget":Str) (bZ ("deeds":Str) d (bZ ("papers":Str) p (bZ ("closed_days":Str) c (bZ ("rest_days":Str) r (bZ ("leaves":Str) l fs)))))=none:=by
 rcases h with rfl|⟨l0,r0,c0,p0,d0,li0,fi0,rfl⟩
 ·rw[show bZ ("leaves":Str) l []=[(("leaves":Str),l)]from rfl,uH,qf,Br,EU]
  exact(Eb (by decide +kernel)).trans ((Eb (by decide +kernel)).trans ((Eb (by decide +kernel)).trans ((Eb (by decide +kernel)).trans ((Eb (by decide +kernel)).trans rfl))))
 ·rw[rO,jV,lM,rM,uI,uJ]
theorem Jp{fs:List (Str×V)}(h:fs=[]\/∃l r c p d li fi,fs=bF l r c p d li fi):fs.length<=7:=by
 rcases h with rfl|⟨l0,r0,c0,p0,d0,li0,fi0,rfl⟩
 ·exact bp _
 ·exact ay _
theorem Iz{x dx q:Addr}{o o':HO}(nx:H x=none)(zM:H dx=none)(e:(upd (upd H dx o) x o') q=none):H q=none:=by
 cases h:H q with
 |none=>rfl
 |some u=>
  rw[aG (aR h nx),aG (aR h zM),h]at e;cases e
theorem nX{n:Nat}:Pb.look s (n:Int)=Vbptae.paper s n:=by
 unfold Pb.look;rw[aw (by omega),b9]
theorem KX.D3(B:KX T z s L M H){x dx nd a lb:Addr}{p:Paper}(nx:H x=none)(zM:H dx=none)(e1:(upd (upd H dx (.own x)) x (.ins T.Paper.C dx [])) nd=none)
  (e2:H' x=some (.ins T.Paper.C dx (pF p.num p.who (.ref a) (.ref lb) p.parent (.ref nd) .fL false .fL)))(e3:H' nd=some (.dK []))(e4:∀b o,(upd (upd H dx (.own x)) x (.ins T.Paper.C dx [])) b=some o->b≠x->H' b=some o)
  (hd:H a=some (.tup (dv p.day)))(hb:CZ H lb p.boxes)(p1:p.names=[])(p2:p.out=none)(p3:p.shown=none)(hn:Vbptae.paper s p.num=none)(QL:p.parent=0\/∃q∈L,q.num=p.parent)(wf:Pb.Wf {s with papers:=putPaper p s.papers}):
  aS H H'/\H' z.P=some (.dK (kJ z L))/\Kl H (upd H' z.P (.dK (kJ z L++ [((Sum.inl (p.num:Int):Key),V.ref x)])))/\∃z':Ad,z'.b=z.b/\WX T z' {s with papers:=putPaper p s.papers} (L++ [p]) M (upd H' z.P (.dK (kJ z L++ [((Sum.inl (p.num:Int):Key),V.ref x)]))):=by
 have s1:aS H H':=aS.made nx zM e4;have nn:=Iz nx zM e1;have hP:=s1 _ _ B.hP;have k:Ko z.P H (upd H' z.P (.dK (kJ z L++ [((Sum.inl (p.num:Int):Key),V.ref x)]))):=λb o e n=>by rw[aG n];exact s1 _ _ e
 have kl:=k.kl B.hP rfl;have xP:x≠z.P:=λe=>by rw[e,B.hP]at nx;cases nx
 have nP:nd≠z.P:=λe=>by rw[e,B.hP]at nn;cases nn
 have Wr:∀q∈L,q.num≠p.num:=λq hq=>Pb.sv.mp (by rw[hn];rfl) q (B.mem.mp hq)
 refine⟨s1,hP,kl,{z with pa:=λi=>if i=p.num then x else z.pa i,nd:=λi=>if i=p.num then nd else z.nd i},rfl,B.L5 (a:=x) (n1:=nd) k nx nn ⟨dx,a,lb,[],.fL,.fL,?_,kl.tup hd,hb.keep kl,?_,?_,?_,?_⟩ ai Wr ?_ QL wf rfl rfl rfl rfl⟩
 ·rw[aG xP,e2,p2];rfl
 ·rw[aG nP,e3];rfl
 ·rw[p1]
 ·rw[p2];rfl
 ·rw[p3];rfl
 ·exact(ny.trans (B.i6.cons p)).trans Pb.f7.symm
theorem KX.G7(B:KX T z s L M H){x dx a lb:Addr}{d:Deed}(nx:H x=none)(zM:H dx=none)
  (e2:H' x=some (.ins T.Deed.C dx (dF d.num d.paper (.ref lb) d.giver d.taker (.ref a))))(e4:∀b o,(upd (upd H dx (.own x)) x (.ins T.Deed.C dx [])) b=some o->b≠x->H' b=some o)
  (hd:H a=some (.tup (dv d.day)))(hb:CZ H lb d.boxes)(hn:∀e∈s.deeds,e.num≠d.num)(wf:Pb.Wf {s with deeds:=putDeed d s.deeds}):
  aS H H'/\H' z.D=some (.dK (rK z M))/\Kl H (upd H' z.D (.dK (rK z M++ [((Sum.inl (d.num:Int):Key),V.ref x)])))/\∃z':Ad,z'.b=z.b/\WX T z' {s with deeds:=putDeed d s.deeds} L (M++ [d]) (upd H' z.D (.dK (rK z M++ [((Sum.inl (d.num:Int):Key),V.ref x)]))):=by
 have s1:aS H H':=aS.made nx zM e4;have hD:=s1 _ _ B.hD;have k:Ko z.D H (upd H' z.D (.dK (rK z M++ [((Sum.inl (d.num:Int):Key),V.ref x)]))):=λb o e n=>by rw[aG n];exact s1 _ _ e
 have kl:=k.kl B.hD rfl;have xD:x≠z.D:=λe=>by rw[e,B.hD]at nx;cases nx
 refine⟨s1,hD,kl,{z with da:=λi=>if i=d.num then x else z.da i},rfl,B.N5 (a:=x) k ⟨dx,a,lb,?_,kl.tup hd,hb.keep kl⟩ ai (λq hq=>hn q (B.iB.mem_iff.mp hq)) ?_ wf rfl rfl rfl rfl⟩
 ·rw[aG xD,e2]
 ·exact(ny.trans (B.iB.cons d)).trans Pb.ik.symm
theorem BX.TZ(B:BX T z s L M H)(n:Nat):((∀e∈s.deeds,e.num≠n)/\fB (rK z M) (Sum.inl (n:Int))=none)\/(¬(∀e∈s.deeds,e.num≠n)/\(fB (rK z M) (Sum.inl (n:Int))).isSome=true):=by
 by_cases h:∃d∈M,d.num=n
 ·obtain⟨d,hd,rfl⟩:=h
  refine .inr ⟨λq=>q d (B.iB.mem_iff.mp hd) rfl,?_⟩;unfold rK;rw[<-tE];exact fJ.mpr ⟨_,aV.mpr ⟨d,hd,rfl⟩,aJ rfl⟩
 ·refine .inl ⟨λe he q=>h ⟨e,B.iB.mem_iff.mpr he,q⟩,?_⟩
  exact ig (f:=λd:Deed=>(Sum.inl (d.num:Int):Key)) (g:=λd=>V.ref (z.da d.num)) λd hd e=>h ⟨d,hd,by injection e with e;omega⟩
end
section
variable{P:Program}{w:World}{K:c9}{mg:jB}{base:Heap}
def J6(T:Tx K mg base):Sp:=λvs H Q _=>∃(x dx:Addr)(fs:List (Str×V)),vs=[.ref x]/\H x=some (.ins T.bM.C dx fs)/\fs.length<900/\
 ∀H' li fi,H li=none->H fi=none->Ko x H H'->H' x=some (.ins T.bM.C dx (bZ ("firsts":Str) (.ref fi) (bZ ("limits":Str) (.ref li) fs)))->H' li=some (.dT [])->zO K H' fi []->Q .fL H'
theorem pO(T:Tx K mg base):lN P w K mg base Bu 1 T.ib.f T.ib.fd ["self"] (J6 T):=by
 refine T.ib.F.ok ye (λvs H Q E h=>?_) (λmq A outer s0 H vs Q E hr h=>?_)
 ·obtain⟨x,dx,fs,rfl,h0,hl,k⟩:=h;rfl
 obtain⟨x,dx,fs,rfl,h0,hl,k⟩:=h;refine⟨_,(af (eE (pv 0) DP rfl)
   (au (eE (pv 0) Ku rfl))),?_⟩
 intro li nl;have nx:x≠li:=aR h0 nl;refine⟨_,rfl,x,_,dx,_,rfl,(by rw[aG nx];exact h0),T.bM.cl,T.gm,(by omega),?_⟩;obtain⟨k1,x1,p1,n1⟩:=lZ (o:=.dT []) (o':=.ins T.bM.C dx (bZ ("limits":Str) (.ref li) fs)) h0 nl;generalize upd (upd H li (.dT [])) x (.ins T.bM.C dx (bZ ("limits":Str) (.ref li) fs))=H1 at k1 x1 p1;intro fi o nf hn;have nx2:x≠fi:=aR x1 nf;have UG:=zO.RE (Ko.upd (x:=x) (o:=.ins T.bM.C dx (bZ ("firsts":Str) (.ref fi) (bZ ("limits":Str) (.ref li) fs)))) nx2.symm hn;refine⟨_,rfl,x,_,dx,_,rfl,(by rw[aG nx2];exact x1),T.bM.cl,T.gn,(by have:=nM ("limits":Str) (.ref li) fs;omega),?_⟩;obtain⟨k2,x2,p2,n2⟩:=lZ (o:=oO fi o) (o':=.ins T.bM.C dx (bZ ("firsts":Str) (.ref fi) (bZ ("limits":Str) (.ref li) fs))) x1 nf;refine k _ li fi nl ?_ (k1.trans k2) x2 (k2 _ _ p1 n1) UG;cases q:H fi with
 |none=>rfl
 |some u=>rw[k1 _ _ q n2]at nf;cases nf
def MP(T:Tx K mg base):Sp:=λvs H Q _=>∃(x dx a:Addr)(fs:List (Str×V))(ns:List Int),vs=[.ref x,.ref a]/\H x=some (.ins T.bM.C dx fs)/\(fs=[]\/∃l r c p d li fi,fs=bF l r c p d li fi)/\cG K H a (ns.map V.int)/\
 ∀H' l r c p d li fi,H fi=none->c≠li->p≠d->Ko x H H'->H' x=some (.ins T.bM.C dx (bF (.ref l) (.ref r) (.ref c) (.ref p) (.ref d) (.ref li) (.ref fi)))->H' l=some (.lst (ns.map V.int))->H' r=some (.lst [])->H' c=some (.dT [])->H' p=some (.dK [])->H' d=some (.dK [])->H' li=some (.dT [])->zO K H' fi []->Q .fL H'
theorem rp(T:Tx K mg base):lN P w K mg base Bu 2 T.i0.f T.i0.fd ["self","leaves"] (MP T):=by
 refine T.i0.F.ok Af (λvs H Q E h=>?_) (λmq A outer s0 H vs Q E hr h=>?_)
 ·obtain⟨x,dx,a,fs,ns,rfl,h0,hf,ha,k⟩:=h;rfl
 obtain⟨x,dx,a,fs,ns,rfl,h0,hf,ha,k⟩:=h;refine⟨_,(af (eE (pv 0) (cu dY (by rfl) T.lL boot_list (av 1 ah)) rfl)
   (af (eE (pv 0) (a7 ah) rfl)
   (af (eE (pv 0) DP rfl)
   (af (eE (pv 0) yu rfl)
   (af (eE (pv 0) yu rfl)
   (au (fR (DO (pv 0) T.bM.cl T.ib.me ((pO T).mono (by decide)) hr T.ib.b .nil pK)))))))),?_⟩
 have len:=Jp hf;refine⟨_,rfl,a,_,rfl,.inl ha,λl nl=>⟨_,rfl,x,_,dx,_,rfl,(by rw[aG (aR h0 nl)];exact h0),T.bM.cl,T.cJ,(by omega),?_⟩⟩;obtain⟨k1,x1,p1,n1⟩:=lZ (o:=.lst (ns.map V.int)) (o':=.ins T.bM.C dx (bZ ("leaves":Str) (.ref l) fs)) h0 nl;generalize upd (upd H l (.lst (ns.map V.int))) x (.ins T.bM.C dx (bZ ("leaves":Str) (.ref l) fs))=H1 at k1 x1 p1;have b1:=nM ("leaves":Str) (.ref l) fs;refine⟨bp _,λr nr=>⟨_,rfl,x,_,dx,_,rfl,(by rw[aG (aR x1 nr)];exact x1),T.bM.cl,T.ju,(by omega),?_⟩⟩;obtain⟨k2,x2,p2,n2⟩:=lZ (o:=.lst []) (o':=.ins T.bM.C dx (bZ ("rest_days":Str) (.ref r) (bZ ("leaves":Str) (.ref l) fs))) x1 nr;generalize upd (upd H1 r (.lst [])) x (.ins T.bM.C dx (bZ ("rest_days":Str) (.ref r) (bZ ("leaves":Str) (.ref l) fs)))=H2 at k2 x2 p2;have b2:=nM ("rest_days":Str) (.ref r) (bZ ("leaves":Str) (.ref l) fs);intro c nc;refine⟨_,rfl,x,_,dx,_,rfl,(by rw[aG (aR x2 nc)];exact x2),T.bM.cl,T.fg,(by omega),?_⟩;obtain⟨k3,x3,p3,n3⟩:=lZ (o:=.dT []) (o':=.ins T.bM.C dx (bZ ("closed_days":Str) (.ref c) (bZ ("rest_days":Str) (.ref r) (bZ ("leaves":Str) (.ref l) fs)))) x2 nc;generalize upd (upd H2 c (.dT [])) x (.ins T.bM.C dx (bZ ("closed_days":Str) (.ref c) (bZ ("rest_days":Str) (.ref r) (bZ ("leaves":Str) (.ref l) fs))))=H3 at k3 x3 p3;have b3:=nM ("closed_days":Str) (.ref c) (bZ ("rest_days":Str) (.ref r) (bZ ("leaves":Str) (.ref l) fs));intro p np;refine⟨_,rfl,x,_,dx,_,rfl,(by rw[aG (aR x3 np)];exact x3),T.bM.cl,T.aI,(by omega),?_⟩;obtain⟨k4,x4,p4,n4⟩:=lZ (o:=.dK []) (o':=.ins T.bM.C dx (bZ ("papers":Str) (.ref p) (bZ ("closed_days":Str) (.ref c) (bZ ("rest_days":Str) (.ref r) (bZ ("leaves":Str) (.ref l) fs))))) x3 np;generalize upd (upd H3 p (.dK [])) x (.ins T.bM.C dx (bZ ("papers":Str) (.ref p) (bZ ("closed_days":Str) (.ref c) (bZ ("rest_days":Str) (.ref r) (bZ ("leaves":Str) (.ref l) fs)))))=H4 at k4 x4 p4;have b4:=nM ("papers":Str) (.ref p) (bZ ("closed_days":Str) (.ref c) (bZ ("rest_days":Str) (.ref r) (bZ ("leaves":Str) (.ref l) fs)));intro d uj;refine⟨_,rfl,x,_,dx,_,rfl,(by rw[aG (aR x4 uj)];exact x4),T.bM.cl,T.gM,(by omega),?_⟩;obtain⟨k5,x5,p5,n5⟩:=lZ (o:=.dK []) (o':=.ins T.bM.C dx (bZ ("deeds":Str) (.ref d) (bZ ("papers":Str) (.ref p) (bZ ("closed_days":Str) (.ref c) (bZ ("rest_days":Str) (.ref r) (bZ ("leaves":Str) (.ref l) fs)))))) x4 uj;generalize upd (upd H4 d (.dK [])) x (.ins T.bM.C dx (bZ ("deeds":Str) (.ref d) (bZ ("papers":Str) (.ref p) (bZ ("closed_days":Str) (.ref c) (bZ ("rest_days":Str) (.ref r) (bZ ("leaves":Str) (.ref l) fs))))))=H5 at k5 x5 p5;have b5:=nM ("deeds":Str) (.ref d) (bZ ("papers":Str) (.ref p) (bZ ("closed_days":Str) (.ref c) (bZ ("rest_days":Str) (.ref r) (bZ ("leaves":Str) (.ref l) fs))));refine⟨_,rfl,x,dx,_,rfl,x5,LX hf,x,dx,_,rfl,x5,(by omega),λH6 li fi nli Qn k6 x6 p6 q6=>?_⟩;rw[N2 hf]at x6;have SX:Ko x H H5:=k1.trans (k2.trans (k3.trans (k4.trans k5)));have p3':=k5 _ _ (k4 _ _ p3 n3) n3;have p4':=k5 _ _ p4 n4;refine k H6 l r c p d li fi ?_ (aR p3' nli) (λe=>by rw[<-e,p4]at uj;cases uj) (SX.trans k6) x6 (k6 _ _ (k5 _ _ (k4 _ _ (k3 _ _ (k2 _ _ p1 n1) n1) n1) n1) n1) (k6 _ _ (k5 _ _ (k4 _ _ (k3 _ _ p2 n2) n2) n2) n2) (k6 _ _ p3' n3) (k6 _ _ p4' n4) (k6 _ _ p5 n5) p6 q6;cases q:H fi with
 |none=>rfl
 |some u=>rw[SX _ _ q (λe=>by rw[e,x5]at Qn;cases Qn)]at Qn;cases Qn
def MO(T:Tx K mg base):Sp:=λvs H Q _=>∃(x dx:Addr),vs=[.ref x]/\H x=some (.ins T.bM.C dx [])/\H T.oW=some (.tI #[])/\
 ∀H'(z:Ad),z.b=x->Ko x H H'->WX T z Vbptae.start [] [] H'->Q .fL H'
theorem Cn(T:Tx K mg base):lN P w K mg base Bu 3 T.nj.f T.nj.fd ["self"] (MO T):=by
 refine T.nj.F.ok BI (λvs H Q E h=>?_) (λmq A outer s0 H vs Q E hr h=>?_)
 ·obtain⟨x,dx,rfl,h0,ht,k⟩:=h;rfl
 obtain⟨x,dx,rfl,h0,ht,k⟩:=h;refine⟨_,(au (fR (G1 (pv 0) T.bM.cl T.i0.me ((rp T).mono (by decide)) hr T.i0.b .nil pK (ag (a7 (ag aC ah)) ah)))),?_⟩
 refine⟨_,rfl,x,dx,_,rfl,h0,rfl,one_le,λa na=>?_⟩;have s1:=aS.new (o:=.lst [V.int 2]) na;refine⟨x,dx,a,[],[2],rfl,s1 _ _ h0,.inl rfl,cG.of ai,λH' l r c p d li fi Qn VJ VC k1 x1 q1 q2 q3 q4 q5 q6 q7=>?_⟩;have k2:Ko x H H':=λb o e n=>k1 _ _ (s1 _ _ e) n
 refine k H' ⟨x,dx,l,r,c,p,d,li,fi,λ_=>0,λ_=>0,λ_=>0⟩ rfl k2 ?_;have W:Pb.Wf {Vbptae.start with sizes:=[2]}:=Pb.Dk;exact(Ei W x1 q1 q2 q3 q4 q5 q6 q7 (.inl (k2 _ _ ht (cF ht h0 (by intro q;cases q)))) VJ VC).toWX
def Dx(T:Tx K mg base)(c:List Int->Call):Sp:=λvs H Q _=>∃(z:Ad)(s:State)(L:List Paper)(M:List Deed)(r:Addr)(ns:List Int),vs=[.ref z.b,.ref r]/\KX T z s L M H/\cG K H r (ns.map V.int)/\ns.length<=100/\Done T z s (c ns) H Q
theorem Cf(T:Tx K mg base):Ok P w base 3 T.u7 (Dx T Call.field):=by
 refine T.u7.ok BC λH vs Q E hr h=>?_
 obtain⟨z,s,L,M,r,ns,rfl,B,fh,hn,k⟩:=h;refine⟨_,(af (bt (cZ (cR (pc T.sS (As T) hr (av 1 ah)))) (au (aH (a7 (ag (bX rfl T.fH) ah)))) aQ)
   (af (fR (G1 (pv 0) T.bM.cl T.i0.me ((rp T).mono (by decide)) hr T.i0.b .nil pK (av 1 ah)))
   (au (aH (a7 (ag aC ah)))))),?_⟩
 have act:=Pb.vS s ns;have wf:=Pb.kx B.wf (.field ns);refine⟨_,rfl,r,ns,rfl,fh,hn,λH1 s1=>⟨_,rfl,kK (λh1=>?_) (λh1=>?_)⟩⟩
 ·refine⟨one_le,k.no (by rw[act,aw];intro g;unfold jx at h1;rw[aJ g.1,k9,bE.mpr λx hx=>aJ (g.2 x hx)]at h1;cases h1) s1 B⟩
 have g:(1<=ns.length/\ns.length<=6)/\(∀x∈ns,1<=x/\x<=8):=by
  unfold jx at h1;rw[a6]at h1;exact⟨jG h1.1,λx hx=>jG (bE.mp h1.2 x hx)⟩
 rw[az g]at act;rw[act]at wf;have B1:=B.same s1;refine⟨_,rfl,z.b,z.dx,_,rfl,B1.ins,EV,_,rfl,z.b,z.dx,r,_,ns,rfl,B1.ins,.inr ⟨_,_,_,_,_,_,_,rfl⟩,s1.seq fh,λH' l r' c p d li fi Qn VJ VC k1 x1 q1 q2 q3 q4 q5 q6 q7=>?_⟩;have kl:Kl H1 H':=k1.kl B1.ins rfl;have e1:ns.map V.int=kv (ns.map Int.toNat):=by unfold kv;rw[og λx hx=>by have:=g.2 x hx;omega]
 rw[e1]at q1;have X:=Ei (T:=T) (z:=⟨z.b,z.dx,l,r',c,p,d,li,fi,λ_=>0,λ_=>0,λ_=>0⟩) wf x1 q1 q2 q3 q4 q5 q6 q7 ((B1.tab.fresh Qn).at_ k1 B1.ins (by intro _ q;cases q) (by intro _ q;cases q)) VJ VC
 refine⟨one_le,k.put act (s1.kl.trans kl) ?_ X.toWX⟩;rfl
theorem DW(T:Tx K mg base):Ok P w base 2 T.xZ (Dx T Call.rest):=by
 refine T.xZ.ok DB λH vs Q E hr h=>?_
 obtain⟨z,s,L,M,r,ns,rfl,B,fh,hn,k⟩:=h;refine⟨_,(af (bt (cZ (cR (pc T.oo (w8 T) hr (av 1 ah)))) (au (aH (a7 (ag (bX rfl T.fH) ah)))) aQ)
   (af (eE (pv 0) (cu dY (by rfl) T.lL boot_list (av 1 ah)) rfl)
   (au (aH (a7 (ag aC ah)))))),?_⟩
 have act:=Pb.zw s ns;have wf:=Pb.kx B.wf (.rest ns);refine⟨_,rfl,r,ns,rfl,fh,hn,λH1 s1=>⟨_,rfl,kK (λh1=>?_) (λh1=>?_)⟩⟩
 ·refine⟨one_le,k.no (by rw[act,aw];intro g;unfold restOk at h1;rw[aJ g.1,k9,bE.mpr λx hx=>aJ (g.2 x hx)]at h1;cases h1) s1 B⟩
 have g:ns.length<=6/\(∀x∈ns,0<=x/\x<=6):=by
  unfold restOk at h1;rw[a6]at h1;exact⟨jG h1.1,λx hx=>jG (bE.mp h1.2 x hx)⟩
 rw[az g]at act;rw[act]at wf;have B1:=B.same s1;refine⟨_,rfl,r,_,rfl,.inl (s1.seq fh),λl nl=>⟨_,rfl,z.b,_,z.dx,_,rfl,(by rw[aG (aR B1.ins nl)];exact B1.ins),T.bM.cl,T.ju,(by show 7<1000;decide),?_⟩⟩;rw[jV];obtain⟨k1,x1,p1,n1⟩:=lZ (o:=.lst (ns.map V.int)) (o':=.ins T.bM.C z.dx (bF (.ref z.L) (.ref l) (.ref z.Cd) (.ref z.P) (.ref z.D) (.ref z.Li) (.ref z.Fi))) B1.ins nl;refine⟨one_le,k.put act (s1.kl.trans (k1.kl B1.ins rfl)) ?_ (B1.MW p1 k1 x1 g.1 (λn=>?_) wf rfl rfl rfl rfl)⟩
 ·rfl
 ·show _↔n∈ns.foldl (λr x=>putNum x.toNat r) []
  rw[(Pb.Hl (l:=ns) (r:=[]) List.Pairwise.nil).2.2 n]
  constructor
  ·intro h;exact .inr ⟨_,h,b9 n⟩
  ·rintro(h|⟨x,hx,e⟩)
   ·cases h
   ·have:=g.2 x hx
    rw[<-e,du (by omega)];exact hx
def MH(T:Tx K mg base):Sp:=λvs H Q _=>∃(z:Ad)(s:State)(L:List Paper)(M:List Deed)(a:Addr)(y m d:Int),vs=[.ref z.b,.ref a]/\KX T z s L M H/\H a=some (.tup [.int y,.int m,.int d])/\Done T z s (.closed y m d) H Q
theorem Bj{cs:List Nat}{n:Nat}(hc:∀c∈cs,VN c)(hn:VN n):fB (cs.map λn=>(dk n,V.bl true)) (dk n)=if n∈cs then some (V.bl true)else none:=by
 by_cases h:n∈cs
 ·rw[az h,kM (f:=dk) (g:=λ_=>V.bl true) h λx hx e=>p9 (hc x hx) hn e]
 ·rw[aw h,ig (f:=dk) (g:=λ_=>V.bl true) λx hx e=>h (by rw[<-p9 (hc x hx) hn e];exact hx)]
theorem Ij{α κ:Type} [DecidableEq κ]{f:α->κ}{g:α->V}{l:List α}{a:α}(h:a∈l)(inj:∀x∈l,f x=f a->x=a):putK (l.map λx=>(f x,g x)) (f a) (g a)=l.map λx=>(f x,g x):=by
 unfold putK;rw[az (fJ.mpr ⟨(f a,g a),aV.mpr ⟨a,h,rfl⟩,aJ rfl⟩),bC];refine gb λx hx=>?_
 show(if f x=f a then(f x,g a)else(f x,g x))=(f x,g x);split
 ·rename_i e;rw[inj x hx e]
 ·rfl
theorem Cj(T:Tx K mg base):Ok P w base 4 T.vO (MH T):=by
 refine T.vO.ok BG λH vs Q E hr h=>?_
 obtain⟨z,s,L,M,a,y,m,d,rfl,B,ha,k⟩:=h;have hu:=ft hr;refine⟨_,(af (bt (cZ (cR (pc T.j6 (hU T) hr (av 1 ah)))) (au (aH (a7 (ag (bX rfl T.i9) ah)))) aQ)
   (af (bt (PW.pt (nL (cS (cH hu (pv 1) (aF (pv 0) rfl))) (kP (bB DT (bQ Jn (by rfl) T.gz bH (ag (aF (pv 0) rfl) ah)) (bX rfl T.sR) (bK _))))) (au (aH (a7 (ag (bX rfl T.zq) ah)))) aQ)
   (af (md hu (aF (pv 0) rfl) (pv 1) jo rfl)
   (au (aH (a7 (ag aC ah))))))),?_⟩
 have act:=Pb.sW s y m d;have wf:=Pb.kx B.wf (.closed y m d);refine⟨_,rfl,a,y,m,d,rfl,c8.of ha,λH1 s1=>⟨_,rfl,gS (λh0=>?_) (λh0=>?_)⟩⟩
 ·exact⟨one_le,k.no (by rw[act,aw h0]) s1 B⟩
 rw[az h0]at act;have B1:=B.same s1;have Lk:H1 a=some (.tup ((dk (Pb.eB y m d)).map kV)):=by rw[zg,<-ml h0];exact s1 _ _ ha
 have vt:=eW (Pb.fO h0);generalize Pb.eB y m d=t at act Lk vt;obtain⟨cs,c1,c2⟩:=B1.closed;have vc:∀c∈cs,VN c:=λc hc=>eW (B.wf.cv c (c2.mem_iff.mp hc))
 dsimp only[xV];refine vG (oQ ?_);refine sU (!(fB (cs.map λn=>(dk n,V.bl true)) (dk t)).isSome) (decide ((200:Int)<=((cs.map λn=>(dk n,V.bl true)).length:Nat))) (λQ' q'=>⟨_,rfl,_,rfl,_,_,_,_,_,rfl,B1.ins,T.bM.cl,T.fg,jA,z.Cd,_,rfl,eG.t c1 Lk,_,rfl,q'⟩) (λ_ Q' q'=>⟨_,rfl,_,_,_,_,_,rfl,B1.ins,T.bM.cl,T.fg,jA,z.Cd,_,rfl,c1,_,_,rfl,rfl,_,rfl,q'⟩) ?_
 rw[Bj vc vt];have hlen:(cs.map λn=>(dk n,V.bl true)).length=s.closed.length:=by rw[ab,c2.length_eq]
 have gv:t∈cs↔t∈s.closed:=c2.mem_iff;have cl:=B.wf.cl;refine mY (λh1=>?_) (λh1=>?_)
 ·refine⟨one_le,k.no ?_ s1 B⟩
  rw[a6,bj,hlen]at h1;rw[act,aw];rintro(h|h)
  ·omega
  ·rw[az (gv.mpr h)]at h1;exact absurd h1.1 (by decide)
 have h2:s.closed.length<200\/t∈s.closed:=by
  by_cases h:t∈s.closed
  ·exact .inr h
  ·rw[aw (λq=>h (gv.mp q))]at h1
   have:decide ((200:Int)<=((cs.map λn=>(dk n,V.bl true)).length:Nat))=false:=by simpa using h1
   rw[lQ,hlen]at this;exact .inl (by omega)
 rw[az h2]at act;rw[act]at wf;refine⟨_,rfl,_,_,_,_,_,rfl,B1.ins,T.bM.cl,T.fg,jA,_,rfl,z.Cd,_,rfl,sZ.t c1 Lk (by rw[hlen,bo];omega),?_⟩;have k1:Ko z.Cd H1 (upd H1 z.Cd (.dT (putK (cs.map λn=>(dk n,V.bl true)) (dk t) (.bl true)))):=Ko.upd
 by_cases h:t∈cs
 ·have e:=Ij (f:=dk) (g:=λ_=>V.bl true) h λx hx e=>p9 (vc x hx) vt e
  refine⟨one_le,k.put act (s1.kl.trans (k1.kl c1 rfl)) rfl (B1.Ol (cs:=cs) k1 (by rw[ai,e]) ?_ wf rfl rfl rfl rfl)⟩;show cs.Perm (putNum t s.closed);rw[Pb.pC B.wf.cs (gv.mp h)];exact c2
 ·have e:=jm (k:=dk t) (V.bl true) (by rw[Bj vc vt,aw h])
  refine⟨one_le,k.put act (s1.kl.trans (k1.kl c1 rfl)) rfl (B1.Ol (cs:=cs++ [t]) k1 (by rw[ai,e,aZ];rfl) ?_ wf rfl rfl rfl rfl)⟩;show(cs++ [t]).Perm (putNum t s.closed)
  exact(ny.trans (c2.cons t)).trans (Pb.pD (λq=>h (gv.mpr q))).symm
theorem vq{n:Int}(h:1<=n):∃m:Nat,n=m:=⟨n.toNat,(du (by omega)).symm⟩
theorem hE{z:Ad}{L:List Paper}:(kJ z L).length=L.length:=by unfold kJ;rw[ab]
theorem sN{z:Ad}{L:List Deed}:(rK z L).length=L.length:=by unfold rK;rw[ab]
def PJ(T:Tx K mg base):Sp:=λvs H Q _=>∃(z:Ad)(s:State)(L:List Paper)(M:List Deed)(n wh:Int)(a:Addr)(y m d:Int)(r:Addr)(ns:List Int),vs=[.ref z.b,.int n,.int wh,.ref a,.ref r]/\KX T z s L M H/\H a=some (.tup [.int y,.int m,.int d])/\cG K H r (ns.map V.int)/\ns.length<=100/\Done T z s (.paper n wh y m d ns) H Q
theorem Ar(T:Tx K mg base):Ok P w base 4 T.sJ (PJ T):=by
 refine T.sJ.ok Ab λH vs Q E hr h=>?_
 obtain⟨z,s,L,M,n,wh,a,y,m,d,r,ns,rfl,B,ha,fh,hlen,k⟩:=h;have hu:=ft hr;refine⟨_,(af (bt (PW.pt (mS (cZ (cR (pc T.mZ (nU T) hr (av 1 ah)))) (mw (cZ (cR (pc T.hW (hJ T) hr (av 2 ah))))))) (au (aH (a7 (ag (bX rfl T.gw) ah)))) aQ)
   (af (bt (cZ (cR (pc T.j6 (hU T) hr (av 3 ah)))) (au (aH (a7 (ag (bX rfl T.i9) ah)))) aQ)
   (af (bt (cZ (cR (pc T.lr (kQ T) hr (ag (aF (pv 0) rfl) (av 4 (ag aC ah)))))) (au (aH (a7 (ag (bX rfl T.fH) ah)))) aQ)
   (af (bt (cS (pJ hu (pv 1) (aF (pv 0) rfl))) (au (aH (a7 (ag (bX rfl T.lJ) ah)))) aQ)
   (af (bt (bB DT (bQ jU (by rfl) T.gz bH (ag (aF (pv 0) rfl) ah)) (bX rfl T.rL) (bK _)) (au (aH (a7 (ag (bX rfl T.zq) ah)))) aQ)
   (af (md hu (aF (pv 0) rfl) (pv 1) (ue T.um ((j4 T).mono (by decide)) hr rfl T.Paper.mg T.ia.b .nil pK (av 1 (av 2 (av 3 (ag (pc T.lK (kf T) hr (ag (aF (pv 0) rfl) (av 4 ah))) (ag aC ah)))))) rfl)
   (au (aH (a7 (ag (bQ jU (by rfl) T.gz bH (ag (aF (pv 0) rfl) ah)) ah)))))))))),?_⟩
 have act:=Pb.vR s n wh y m d ns;have wf:=Pb.kx B.wf (.paper n wh y m d ns);refine mU (!decide (1<=n/\n<=999)) (!decide (1<=wh/\wh<=20)) (λQ' q'=>⟨_,rfl,n,rfl,_,rfl,q'⟩) (λ_ Q' q'=>⟨_,rfl,wh,rfl,_,rfl,q'⟩) ?_;refine mY (λh0=>?_) (λh0=>?_)
 ·refine⟨one_le,k.no ?_ (aS.refl _) B⟩
  rw[act]
  by_cases h1:1<=n/\n<=999
  ·rw[az h1]
   rw[aJ h1,cN,Fl]at h0;rw[aw (by intro q;rw[aJ q]at h0;cases h0)]
  ·rw[aw h1]
 rw[oV]at h0;have h1:1<=n/\n<=999:=by simpa using h0.1
 have h2:1<=wh/\wh<=20:=by simpa using h0.2
 rw[az h1,az h2]at act;obtain⟨n,rfl⟩:=vq h1.1;obtain⟨wh,rfl⟩:=vq h2.1;rw[b9,b9]at act;refine⟨_,rfl,a,y,m,d,rfl,c8.of ha,λH0 s0=>⟨_,rfl,gS (λh3=>?_) (λh3=>?_)⟩⟩
 ·exact⟨one_le,k.no (by rw[act,aw h3]) s0 B⟩
 rw[az h3]at act;have B0:=B.same s0;refine⟨_,rfl,_,_,_,_,_,rfl,B0.ins,T.bM.cl,T.cJ,fC,_,rfl,z.L,r,s.sizes,ns,1,rfl,cG.of B0.fq,s0.seq fh,B.wf.k1,B.wf.k2,λk hk=>(B.wf.kv k hk).2,hlen,λH1 BK=>⟨_,rfl,gS (λh4=>?_) (λh4=>?_)⟩⟩
 ·exact⟨one_le,k.no (by rw[act,aw h4]) (s0.trans BK) B⟩
 rw[az h4]at act;have s1:=s0.trans BK;have B1:=B.same s1;refine⟨_,rfl,_,rfl,_,_,_,_,_,rfl,B1.ins,T.bM.cl,T.aI,bc,z.P,_,rfl,eG.rd (k:=Sum.inl (n:Int)) B1.papers,_,rfl,?_⟩;rcases B1.look n with⟨g1,g2⟩|⟨p,hp,_,g1,g2⟩
 rotate_left
 ·rw[g2]
  refine gU ⟨one_le,k.no ?_ s1 B⟩;rw[nX]at g1;rw[act,g1];rfl
 rw[g2];rw[nX]at g1;rw[az (by rw[g1];rfl)]at act;refine iZ ?_;refine⟨_,rfl,_,_,_,_,_,rfl,B1.ins,T.bM.cl,T.aI,bc,z.P,_,rfl,B1.hP,_,_,rfl,rfl,_,rfl,jb (λh5=>?_) (λh5=>?_)⟩
 ·rw[hE,B.len]at h5
  exact⟨one_le,k.no (by rw[act,aw (by omega)]) s1 B⟩
 rw[hE,B.len]at h5;rw[az (by omega)]at act;rw[act]at wf;refine⟨_,rfl,_,rfl,_,rfl,_,rfl,_,_,_,_,_,rfl,B1.ins,T.bM.cl,T.cJ,fC,_,rfl,z.L,r,s.sizes,ns,rfl,cG.of B1.fq,s1.seq fh,B.wf.k1,B.wf.k2,hlen,h4.1,λH2 lb as Mc _ eb tb=>?_⟩;have tb:=tb.boxes h4;have s2:=s1.trans Mc;have B2:=B.same s2;intro x sL nx zM RC;refine⟨x,sL,n,wh,0,.ref a,.ref lb,rfl,ai,λH3 Iw e1 e2 e3 e4=>⟨rfl,?_⟩⟩;obtain⟨s3,hP3,kl,z',hz,X⟩:=B2.D3 (p:={num:=n,who:=wh,day:=Pb.eB y m d,boxes:=Pb.cw s.sizes ns,parent:=0,names:=[],out:=none,shown:=none}) nx zM e1 e2 e3 e4 (by show H2 a=some (.tup (dv (Pb.eB y m d)));rw[<-ml h3];exact s2 _ _ ha) ⟨as,eb,tb⟩ rfl rfl rfl g1 (.inl rfl) wf;have S0:=s3 _ _ B2.ins;refine⟨_,rfl,_,_,_,_,_,rfl,S0,T.bM.cl,T.aI,bc,_,rfl,z.P,_,rfl,sZ.k (k:=Sum.inl (n:Int)) hP3 (by rw[hE,bo];have:=B.uq;omega),?_⟩;rw[jm _ g2];have bP:z.b≠z.P:=cF B.ins B.hP (by intro q;cases q);refine⟨_,rfl,_,_,_,_,_,rfl,(by rw[aG bP];exact S0),T.bM.cl,T.aI,bc,z.P,_,rfl,ai,one_le,?_⟩;rw[aA,hE,B.len];exact k.put act (s2.kl.trans kl) hz X
def nR(p:Paper)(t:Nat)(bs:List Box):Bool:=decide (p.day<=t)&&(!(p.out.any λo=>decide (o.1<t))&&bs.all λb=>p.boxes.contains b)
def J0(T:Tx K mg base):Sp:=λvs H Q _=>∃(a nd d l:Addr)(p:Paper)(t:Nat)(as:List Addr)(bs:List Box),vs=[.ref a,.ref d,.ref l]/\dZ T.Paper.C H a nd p/\H d=some (.tup (dv t))/\VN t/\VN p.day/\(∀o,p.out=some o->VN o.1)/\cG K H l (as.map V.ref)/\sX K H as (bs.map Vbptae.ints)/\bs.length<=100/\∀H',aS H H'->Q (.bl (nR p t bs)) H'
theorem vk(T:Tx K mg base):Ok P w base 2 T.mB (J0 T):=by
 refine T.mB.ok u9 λH vs Q E hr h=>?_
 obtain⟨a,uj,d,l,p,t,as,bs,rfl,hp,hd,vt,vp,vo,hl,ht,hn,k⟩:=h;refine⟨_,(af (bt (bB (mf (K:=K) rfl hr.ji) (pv 1) (aF (pv 0) rfl) (bK _)) (au (aH jo)) aQ)
   (af (bt (PW.pt (nL (cS (xA (aF (pv 0) rfl))) (kP (bB (mf (K:=K) rfl hr.ji) (aF (pv 0) rfl) (pv 1) (bK _))))) (au (aH jo)) aQ)
   (au (aH (pc T.iR (jM T) hr (av 0 (av 2 ah))))))),?_⟩
 obtain⟨dx,dt,bl,nm,wd,pu,R⟩:=id hp;refine⟨_,rfl,_,rfl,_,_,_,_,_,rfl,R.ins,T.Paper.cl,T.bG,dN,d,dt,Vbptae.shown t,Vbptae.shown p.day,rfl,rfl,c8.of hd,c8.of R.date,_,rfl,?_⟩;rw[eY vt vp];refine jb (λh1=>?_) (λh1=>?_)
 ·have q:=k H (aS.refl _)
  rw[show nR p t bs=false by unfold nR;rw[aD (by omega),d8]]at q;exact q
 dsimp only[xV];refine vG (oQ ?_);refine sU (decide (p.out≠none)) (p.out.any λo=>decide (o.1<t)) (λQ' q=>?_) (λh0 Q' q=>?_) ?_
 ·refine⟨_,rfl,_,_,_,_,_,rfl,R.ins,T.Paper.cl,T.cV,gF,_,rfl,?_⟩
  have e:(!decide (wd=V.fL))=decide (p.out≠none):=by
   have ho:=R.out;cases j7:p.out with
   |none=>rw[j7]at ho;have:wd=.fL:=ho;rw[this];simp
   |some o=>rw[j7]at ho;obtain⟨a,e1,_⟩:=ho;rw[e1];simp
  rw[e];exact q
 ·have ho:=R.out
  cases j7:p.out with
  |none=>rw[j7]at h0;simp at h0
  |some o=>
   rw[j7]at ho q;obtain⟨a,e1,e2⟩:=ho;have e2:H a=some (.tup (dv o.1)):=e2;subst e1;refine⟨_,rfl,_,_,_,_,_,rfl,R.ins,T.Paper.cl,T.cV,gF,_,rfl,a,d,Vbptae.shown o.1,Vbptae.shown t,rfl,rfl,c8.of e2,c8.of hd,_,rfl,?_⟩;rw[eY (vo o j7) vt];exact q
 rw[show(decide (p.out≠none)&&p.out.any λo=>decide (o.1<t))=p.out.any λo=>decide (o.1<t) by cases p.out<;>simp];refine mY (λh2=>?_) (λh2=>?_)
 ·have q:=k H (aS.refl _)
  rw[show nR p t bs=false by unfold nR;rw[h2];simp]at q;exact q
 refine⟨_,rfl,_,rfl,a,uj,l,p,as,bs,rfl,hp,hl,ht,hn,λH' s'=>?_⟩;have q:=k H' s';rw[show nR p t bs=(bs.all λb=>p.boxes.contains b) by unfold nR;rw[h2,aJ (by omega)];simp]at q;exact q
def Px(T:Tx K mg base):Sp:=λvs H Q _=>∃(z:Ad)(s:State)(L:List Paper)(M:List Deed)(n q:Int)(a:Addr)(y m d:Int)(r:Addr)(ns:List Int),vs=[.ref z.b,.int n,.int q,.ref a,.ref r]/\KX T z s L M H/\H a=some (.tup [.int y,.int m,.int d])/\cG K H r (ns.map V.int)/\ns.length<=100/\Done T z s (.part n q y m d ns) H Q
theorem Ao(T:Tx K mg base):Ok P w base 4 T.sr (Px T):=by
 have nd:=qW.nd;refine T.sr.ok qW λH vs Q E hr h=>?_
 obtain⟨z,s,L,M,n,q,a,y,m,d,r,ns,rfl,B,ha,fh,hlen,k⟩:=h;have hu:=ft hr;refine⟨_,(af (bt (cZ (cR (pc T.mZ (nU T) hr (av 1 ah)))) (au (aH (a7 (ag (bX rfl T.gw) ah)))) aQ)
   (af (bt (cZ (cR (pc T.j6 (hU T) hr (av 3 ah)))) (au (aH (a7 (ag (bX rfl T.i9) ah)))) aQ)
   (af (bt (cZ (cR (pc T.lr (kQ T) hr (ag (aF (pv 0) rfl) (av 4 (ag aC ah)))))) (au (aH (a7 (ag (bX rfl T.fH) ah)))) aQ)
   (af (bt (cS (cH hu (pv 2) (aF (pv 0) rfl))) (au (aH (a7 (ag (bX rfl T.dz) ah)))) aQ)
   (af (bt (cS (pJ hu (pv 1) (aF (pv 0) rfl))) (au (aH (a7 (ag (bX rfl T.lJ) ah)))) aQ)
   (af (sl 5 nd (eJ hu (aF (pv 0) rfl) (pv 2) (λ_ _=>rfl)))
   (af (sl 6 nd (pc T.lK (kf T) hr (ag (aF (pv 0) rfl) (av 4 ah))))
   (af (bt (cZ (cR (pc T.mB (vk T) hr (av 5 (av 3 (av 6 ah)))))) (au (aH (a7 (ag (bX rfl T.eQ) ah)))) aQ)
   (af (bt (bB DT (bQ jU (by rfl) T.gz bH (ag (aF (pv 0) rfl) ah)) (bX rfl T.rL) (bK _)) (au (aH (a7 (ag (bX rfl T.zq) ah)))) aQ)
   (af (md hu (aF (pv 0) rfl) (pv 1) (ue T.um ((j4 T).mono (by decide)) hr rfl T.Paper.mg T.ia.b .nil pK (av 1 (ag (aF (pv 5) rfl) (av 3 (av 6 (av 2 ah)))))) rfl)
   (au (aH (a7 (ag (bQ jU (by rfl) T.gz bH (ag (aF (pv 0) rfl) ah)) ah)))))))))))))),?_⟩
 have act:=Pb.zx s n q y m d ns;have wf:=Pb.kx B.wf (.part n q y m d ns);refine⟨_,rfl,n,rfl,_,rfl,gS (λh1=>?_) (λh1=>?_)⟩
 ·exact⟨one_le,k.no (by rw[act,aw h1]) (aS.refl _) B⟩
 rw[az h1]at act;obtain⟨n,rfl⟩:=vq h1.1;rw[b9]at act;refine⟨_,rfl,a,y,m,d,rfl,c8.of ha,λH0 s0=>⟨_,rfl,gS (λh3=>?_) (λh3=>?_)⟩⟩
 ·exact⟨one_le,k.no (by rw[act,aw h3]) s0 B⟩
 rw[az h3]at act;have B0:=B.same s0;refine⟨_,rfl,_,_,_,_,_,rfl,B0.ins,T.bM.cl,T.cJ,fC,_,rfl,z.L,r,s.sizes,ns,1,rfl,cG.of B0.fq,s0.seq fh,B.wf.k1,B.wf.k2,λk hk=>(B.wf.kv k hk).2,hlen,λH1 BK=>⟨_,rfl,gS (λh4=>?_) (λh4=>?_)⟩⟩
 ·exact⟨one_le,k.no (by rw[act,aw h4]) (s0.trans BK) B⟩
 rw[az h4]at act;have s1:=s0.trans BK;have B1:=B.same s1;refine⟨_,rfl,_,rfl,_,_,_,_,_,rfl,B1.ins,T.bM.cl,T.aI,bc,z.P,_,rfl,eG.rd (k:=Sum.inl q) B1.papers,_,rfl,?_⟩;rcases B1.look q with⟨g1,g2⟩|⟨p,hp,rfl,g1,g2⟩
 ·rw[g2]
  rw[g1]at act;dsimp only at act;exact gU ⟨one_le,k.no (by rw[act]) s1 B⟩
 rw[g2];rw[g1]at act;dsimp only at act;refine iZ ?_;refine⟨_,rfl,_,rfl,_,_,_,_,_,rfl,B1.ins,T.bM.cl,T.aI,bc,z.P,_,rfl,eG.rd (k:=Sum.inl (n:Int)) B1.papers,_,rfl,?_⟩;rcases B1.look n with⟨g3,g4⟩|⟨p2,OG,_,g3,g4⟩
 rotate_left
 ·rw[g4]
  refine gU ⟨one_le,k.no ?_ s1 B⟩;rw[nX]at g3;rw[act,g3];rfl
 rw[g4];rw[nX]at g3;rw[az (by rw[g3];rfl)]at act;refine iZ ?_;refine⟨_,rfl,_,_,_,_,_,rfl,B1.ins,T.bM.cl,T.aI,bc,_,rfl,z.P,_,rfl,B1.get g2,?_⟩;refine⟨_,rfl,_,_,_,_,_,rfl,B1.ins,T.bM.cl,T.cJ,fC,_,rfl,z.L,r,s.sizes,ns,rfl,cG.of B1.fq,s1.seq fh,B.wf.k1,B.wf.k2,hlen,h4.1,λH2 lb as Mc _ eb tb=>?_⟩;have tb:=tb.boxes h4;have s2:=s1.trans Mc;have B2:=B.same s2;have Uz:(Pb.cw s.sizes ns).length<=12:=by rw[Pb.eR];exact h4.2.2.1
 have UP:H2 a=some (.tup (dv (Pb.eB y m d))):=by rw[<-ml h3];exact s2 _ _ ha
 have pw:=B.pw hp;refine⟨_,rfl,_,rfl,_,rfl,z.pa p.num,z.nd p.num,a,lb,p,Pb.eB y m d,as,Pb.cw s.sizes ns,rfl,B2.paper p hp,UP,eW (Pb.fO h3),eW pw.day,λo ho=>eW (pw.out o ho),cG.of eb,tb.lB,(by omega),λH3 FJ=>⟨_,rfl,?_⟩⟩;have s3:=s2.trans FJ;have B3:=B.same s3;have fit:nR p (Pb.eB y m d) (Pb.cw s.sizes ns)=true↔(p.day<=Pb.eB y m d/\(p.out.any λo=>decide (o.1<Pb.eB y m d))=false/\(∀b∈Pb.cw s.sizes ns,b∈p.boxes)):=by
  unfold nR;rw[a6,a6,bj,f6,bE];simp only[gH]
 refine kK (λh5=>?_) (λh5=>?_)
 ·refine⟨one_le,k.no ?_ s3 B⟩
  rw[act,aw (λg=>by rw[fit.mpr g]at h5;cases h5)]
 rw[az (fit.mp h5)]at act;refine⟨_,rfl,_,_,_,_,_,rfl,B3.ins,T.bM.cl,T.aI,bc,z.P,_,rfl,B3.hP,_,_,rfl,rfl,_,rfl,jb (λh6=>?_) (λh6=>?_)⟩
 ·rw[hE,B.len]at h6
  exact⟨one_le,k.no (by rw[act,aw (by omega)]) s3 B⟩
 rw[hE,B.len]at h6;rw[az (by omega)]at act;rw[act]at wf;obtain⟨dx,dt,bl,nm,wd,pu,R⟩:=B3.paper p hp;refine⟨_,rfl,_,rfl,_,_,_,_,_,rfl,R.ins,T.Paper.cl,T.fm,pL,_,rfl,_,rfl,_,rfl,?_⟩;intro x sL nx zM RC;refine⟨x,sL,n,p.who,p.num,.ref a,.ref lb,rfl,ai,λH4 Iw e1 e2 e3 e4=>⟨rfl,?_⟩⟩;obtain⟨s4,hP4,kl,z',hz,X⟩:=B3.D3 (p:={num:=n,who:=p.who,day:=Pb.eB y m d,boxes:=Pb.cw s.sizes ns,parent:=p.num,names:=[],out:=none,shown:=none}) nx zM e1 e2 e3 e4 (FJ _ _ UP) ⟨as,FJ _ _ eb,tb.keep FJ.kl⟩ rfl rfl rfl g3 (.inr ⟨p,hp,rfl⟩) wf;have SY:=s4 _ _ B3.ins;refine⟨_,rfl,_,_,_,_,_,rfl,SY,T.bM.cl,T.aI,bc,_,rfl,z.P,_,rfl,sZ.k (k:=Sum.inl (n:Int)) hP4 (by rw[hE,bo];have:=B.uq;omega),?_⟩;rw[jm _ g4];have bP:z.b≠z.P:=cF B.ins B.hP (by intro q;cases q);refine⟨_,rfl,_,_,_,_,_,rfl,(by rw[aG bP];exact SY),T.bM.cl,T.aI,bc,z.P,_,rfl,ai,one_le,?_⟩;rw[aA,hE,B.len];exact k.put act (s3.kl.trans kl) hz X
def Si(T:Tx K mg base)(c:Int->Int->Call):Sp:=λvs H Q _=>∃(z:Ad)(s:State)(L:List Paper)(M:List Deed)(n q:Int),vs=[.ref z.b,.int n,.int q]/\KX T z s L M H/\Done T z s (c n q) H Q
theorem Ap(T:Tx K mg base):Ok P w base 1 T.sA (Si T Call.name):=by
 have nd:=qX.nd;refine T.sA.ok qX λH vs Q E hr h=>?_
 obtain⟨z,s,L,M,n,q,rfl,B,k⟩:=h;have hu:=ft hr;refine⟨_,(af (bt (PW.pt (mS (cS (cH hu (pv 1) (aF (pv 0) rfl))) (mw (cS (cH hu (pv 2) (aF (pv 0) rfl)))))) (au (aH (a7 (ag (bX rfl T.dz) ah)))) aQ)
   (af (sl 3 nd (eJ hu (aF (pv 0) rfl) (pv 1) (λ_ _=>rfl)))
   (af (bt (PW.pt (mS (bB DS (aF (pv 3) rfl) aC (bK _)) (mS (bB eA (pv 1) (pv 2) (bK _)) (mw (bB (B9 (K:=K) rfl hr.ji) (aF (eJ hu (aF (pv 0) rfl) (pv 2) (λ_ _=>rfl)) rfl) (aF (pv 3) rfl) (bK _)))))) (au (aH (a7 (ag (bX rfl T.eQ) ah)))) aQ)
   (af (bt (cS (pJ hu (pv 2) (aF (pv 3) rfl))) (au (aH (a7 (ag (bX rfl T.gh) ah)))) aQ)
   (af (bt (bB DT (bQ jU (by rfl) T.gz bH (ag (aF (pv 3) rfl) ah)) (bX rfl T.CK) (bK _)) (au (aH (a7 (ag (bX rfl T.zq) ah)))) aQ)
   (af (md hu (aF (pv 3) rfl) (pv 2) jo rfl)
   (au (aH (a7 (ag aC ah)))))))))),?_⟩
 have act:=Pb.zy s n q;have wf:=Pb.kx B.wf (.name n q);refine mU (!(fB (kJ z L) (Sum.inl n)).isSome) (!(fB (kJ z L) (Sum.inl q)).isSome) (λQ' q'=>⟨_,rfl,_,rfl,_,_,_,_,_,rfl,B.ins,T.bM.cl,T.aI,bc,z.P,_,rfl,eG.rd (k:=Sum.inl n) B.papers,_,rfl,q'⟩) (λ_ Q' q'=>⟨_,rfl,_,rfl,_,_,_,_,_,rfl,B.ins,T.bM.cl,T.aI,bc,z.P,_,rfl,eG.rd (k:=Sum.inl q) B.papers,_,rfl,q'⟩) ?_
 rcases B.look n with⟨g1,g2⟩|⟨p,hp,rfl,g1,g2⟩
 ·rw[g2]
  rw[g1]at act;dsimp only at act;exact gU ⟨one_le,k.no (by rw[act]) (aS.refl _) B⟩
 rw[g1]at act;dsimp only at act;rcases B.look q with⟨g3,g4⟩|⟨r,JH,rfl,g3,g4⟩
 ·rw[g2,g4]
  rw[g3]at act;dsimp only at act;exact gU ⟨one_le,k.no (by rw[act]) (aS.refl _) B⟩
 rw[g3]at act;dsimp only at act;rw[g2,g4];refine iZ ?_;obtain⟨dx,dt,bl,nm,wd,pu,R⟩:=id (B.paper p hp);obtain⟨UY,Q9,U1,Uw,Uh,Ur,R2⟩:=id (B.paper r JH);refine⟨_,rfl,_,_,_,_,_,rfl,B.ins,T.bM.cl,T.aI,bc,_,rfl,z.P,_,rfl,B.get g2,?_⟩;dsimp only[xV];refine vG (oQ ?_);refine mU (!decide (V.int (p.parent:Int)=V.int 0)) (decide (V.int (p.num:Int)=V.int (r.num:Int))||decide (p.day<r.day)) (λQ' q'=>⟨_,rfl,_,_,_,_,_,rfl,R.ins,T.Paper.cl,T.de,ir,rfl,_,rfl,q'⟩) (λ_ Q' q'=>mU (decide (V.int (p.num:Int)=V.int (r.num:Int))) (decide (p.day<r.day)) (λQ' q'=>⟨_,rfl,_,rfl,rfl,_,rfl,q'⟩) (λ_ Q' q'=>⟨_,rfl,_,_,_,_,_,rfl,B.ins,T.bM.cl,T.aI,bc,_,rfl,z.P,_,rfl,B.get g4,_,_,_,_,_,rfl,R2.ins,T.Paper.cl,T.bG,dN,_,rfl,_,_,_,_,_,rfl,R.ins,T.Paper.cl,T.bG,dN,Q9,dt,Vbptae.shown r.day,Vbptae.shown p.day,rfl,rfl,c8.of R2.date,c8.of R.date,_,rfl,(by rw[eY (eW (B.vn hp)) (eW (B.vn JH))];exact q')⟩) q') ?_;have fit:((!decide (V.int (p.parent:Int)=V.int 0))||(decide (V.int (p.num:Int)=V.int (r.num:Int))||decide (p.day<r.day)))=true↔¬(p.parent=0/\p.num≠r.num/\r.day<=p.day):=by
  rw[xa,xa,dq,dq,f6,lQ,bj,bj];omega
 refine mY (λh1=>?_) (λh1=>?_)
 ·exact⟨one_le,k.no (by rw[act,aw (fit.mp h1)]) (aS.refl _) B⟩
 rw[az (Decidable.not_not.mp λg=>by rw[fit.mpr g]at h1;cases h1)]at act;refine⟨_,rfl,_,rfl,_,_,_,_,_,rfl,R.ins,T.Paper.cl,T.cq,fE,z.nd p.num,_,rfl,eG.k (k:=Sum.inl (r.num:Int)) R.named,_,rfl,?_⟩;rw[mX R.perm];refine mY (λh2=>?_) (λh2=>?_)
 ·exact⟨one_le,k.no (by rw[act,aw (by simpa using h2)]) (aS.refl _) B⟩
 rw[az (by simpa using h2)]at act;have VG:(fF nm).length=p.names.length:=by unfold fF;rw[ab,R.perm.length_eq]
 refine⟨_,rfl,_,_,_,_,_,rfl,R.ins,T.Paper.cl,T.cq,fE,z.nd p.num,_,rfl,R.named,_,_,rfl,rfl,_,rfl,jb (λh3=>?_) (λh3=>?_)⟩
 ·rw[VG]at h3
  exact⟨one_le,k.no (by rw[act,aw (by omega)]) (aS.refl _) B⟩
 rw[VG]at h3;rw[az (by omega)]at act;rw[act]at wf;refine⟨_,rfl,_,_,_,_,_,rfl,R.ins,T.Paper.cl,T.cq,fE,_,rfl,z.nd p.num,_,rfl,sZ.k (k:=Sum.inl (r.num:Int)) R.named (by rw[VG,bo];omega),?_⟩;rw[jm _ (by have q:=yH R.perm r.num;rw[h2]at q;exact q)];have k1:Ko (z.nd p.num) H (upd H (z.nd p.num) (.dK (fF nm++ [((Sum.inl (r.num:Int):Key),V.bl true)]))):=Ko.upd;have kl:=k1.kl R.named rfl;have ne:z.pa p.num≠z.nd p.num:=cF R.ins R.named (by intro q;cases q);refine⟨one_le,k.put act kl rfl (B.chg (f:=λx=>{x with names:=putNum r.num x.names}) hp R.named (.inr rfl) k1 ⟨dx,dt,bl,nm++ [r.num],wd,pu,?_,kl.tup R.date,R.boxes.keep kl,?_,?_,R.out.keep kl,R.shown.keep kl⟩ (λ_=>rfl) (λ_=>rfl) wf)⟩
 ·rw[aG ne];exact R.ins
 ·rw[ai];unfold fF;rw[aZ];rfl
 ·exact(ny.trans (R.perm.cons r.num)).trans (Pb.pD (by simpa using h2)).symm
theorem w6(T:Tx K mg base):Ok P w base 1 T.oh (Si T Call.give):=by
 have nd:=oE.nd;refine T.oh.ok oE λH vs Q E hr h=>?_
 obtain⟨z,s,L,M,n,q,rfl,B,k⟩:=h;have hu:=ft hr;refine⟨_,(af (bt (PW.pt (mS (cS (cH hu (pv 1) (aF (pv 0) rfl))) (mw (cS (cH hu (pv 2) (aF (pv 0) rfl)))))) (au (aH (a7 (ag (bX rfl T.dz) ah)))) aQ)
   (af (sl 3 nd (eJ hu (aF (pv 0) rfl) (pv 1) (λ_ _=>rfl)))
   (af (bt (cS (cH hu (pv 2) (aF (pv 3) rfl))) (au (aH (a7 (ag (bX rfl T.gh) ah)))) aQ)
   (af (fR (Ks (aF (pv 3) rfl) (pv 2) ⟨rfl,rfl,rfl,rfl⟩))
   (au (aH (a7 (ag aC ah)))))))),?_⟩
 have act:=Pb.zA s n q;have wf:=Pb.kx B.wf (.give n q);refine mU (!(fB (kJ z L) (Sum.inl n)).isSome) (!(fB (kJ z L) (Sum.inl q)).isSome) (λQ' q'=>⟨_,rfl,_,rfl,_,_,_,_,_,rfl,B.ins,T.bM.cl,T.aI,bc,z.P,_,rfl,eG.rd (k:=Sum.inl n) B.papers,_,rfl,q'⟩) (λ_ Q' q'=>⟨_,rfl,_,rfl,_,_,_,_,_,rfl,B.ins,T.bM.cl,T.aI,bc,z.P,_,rfl,eG.rd (k:=Sum.inl q) B.papers,_,rfl,q'⟩) ?_
 rcases B.look n with⟨g1,g2⟩|⟨p,hp,rfl,g1,g2⟩
 ·rw[g2]
  rw[g1]at act;dsimp only at act;exact gU ⟨one_le,k.no (by rw[act]) (aS.refl _) B⟩
 rw[g1]at act;dsimp only at act;rcases B.look q with⟨g3,g4⟩|⟨r,JH,rfl,g3,g4⟩
 ·rw[g2,g4]
  rw[g3]at act;dsimp only at act;exact gU ⟨one_le,k.no (by rw[act]) (aS.refl _) B⟩
 rw[g3]at act;dsimp only at act;rw[g2,g4];refine iZ ?_;obtain⟨dx,dt,bl,nm,wd,pu,R⟩:=id (B.paper p hp);refine⟨_,rfl,_,_,_,_,_,rfl,B.ins,T.bM.cl,T.aI,bc,_,rfl,z.P,_,rfl,B.get g2,?_⟩;refine⟨_,rfl,_,rfl,_,_,_,_,_,rfl,R.ins,T.Paper.cl,T.cq,fE,z.nd p.num,_,rfl,eG.k (k:=Sum.inl (r.num:Int)) R.named,_,rfl,?_⟩;rw[mX R.perm];refine kK (λh2=>?_) (λh2=>?_)
 ·exact⟨one_le,k.no (by rw[act,aw (by simpa using h2)]) (aS.refl _) B⟩
 rw[az (by simpa using h2)]at act;rw[act]at wf;refine⟨_,rfl,_,_,_,_,_,rfl,R.ins,T.Paper.cl,T.cq,fE,z.nd p.num,rfl,.inl ⟨_,.inl R.named⟩,_,rfl,fF nm,Sum.inl (r.num:Int),V.bl true,R.named,rfl,(by rw[yH R.perm,h2];rfl),?_⟩;rw[vL];have k1:Ko (z.nd p.num) H (upd H (z.nd p.num) (.dK (fF (nm.filter λx=>x != r.num)))):=Ko.upd;have kl:=k1.kl R.named rfl;have ne:z.pa p.num≠z.nd p.num:=cF R.ins R.named (by intro q;cases q);refine⟨one_le,k.put act kl rfl (B.chg (f:=λp=>{p with names:=p.names.filter λx=>x != r.num}) hp R.named (.inr rfl) k1 ⟨dx,dt,bl,nm.filter λx=>x != r.num,wd,pu,?_,kl.tup R.date,R.boxes.keep kl,ai,R.perm.filter _,R.out.keep kl,R.shown.keep kl⟩ (λ_=>rfl) (λ_=>rfl) wf)⟩;rw[aG ne];exact R.ins
def HV(T:Tx K mg base):Sp:=λvs H Q _=>∃(z:Ad)(s:State)(L:List Paper)(M:List Deed)(n:Int)(a:Addr)(y m d:Int),vs=[.ref z.b,.int n,.ref a]/\KX T z s L M H/\H a=some (.tup [.int y,.int m,.int d])/\Done T z s (.publish n y m d) H Q
theorem vj(T:Tx K mg base):Ok P w base 4 T.mx (HV T):=by
 have nd:=mN.nd;refine T.mx.ok mN λH vs Q E hr h=>?_
 obtain⟨z,s,L,M,n,a,y,m,d,rfl,B,ha,k⟩:=h;have hu:=ft hr;refine⟨_,(af (bt (cZ (cR (pc T.j6 (hU T) hr (av 2 ah)))) (au (aH (a7 (ag (bX rfl T.i9) ah)))) aQ)
   (af (bt (cS (cH hu (pv 1) (aF (pv 0) rfl))) (au (aH (a7 (ag (bX rfl T.dz) ah)))) aQ)
   (af (sl 3 nd (eJ hu (aF (pv 0) rfl) (pv 1) (λ_ _=>rfl)))
   (af (bt (bB (mf (K:=K) rfl hr.ji) (pv 2) (aF (pv 3) rfl) (bK _)) (au (aH (a7 (ag (bX rfl T.eQ) ah)))) aQ)
   (af (bt (cS (xA (aF (pv 3) rfl))) (au (aH (a7 (ag (bX rfl T.gh) ah)))) aQ)
   (af (eE (pv 3) (pv 2) rfl)
   (au (aH (a7 (ag aC ah)))))))))),?_⟩
 have act:=Pb.qi s n y m d;have wf:=Pb.kx B.wf (.publish n y m d);refine⟨_,rfl,a,y,m,d,rfl,c8.of ha,λH0 s0=>⟨_,rfl,gS (λh3=>?_) (λh3=>?_)⟩⟩
 ·exact⟨one_le,k.no (by rw[act,aw h3]) s0 B⟩
 rw[az h3]at act;have B0:=B.same s0;refine⟨_,rfl,_,rfl,_,_,_,_,_,rfl,B0.ins,T.bM.cl,T.aI,bc,z.P,_,rfl,eG.rd (k:=Sum.inl n) B0.papers,_,rfl,?_⟩;rcases B0.look n with⟨g1,g2⟩|⟨p,hp,rfl,g1,g2⟩
 ·rw[g2]
  rw[g1]at act;dsimp only at act;exact gU ⟨one_le,k.no (by rw[act]) s0 B⟩
 rw[g2];rw[g1]at act;dsimp only at act;refine iZ ?_;obtain⟨dx,dt,bl,nm,wd,pu,R⟩:=id (B0.paper p hp);have TH:H0 a=some (.tup (dv (Pb.eB y m d))):=by rw[<-ml h3];exact s0 _ _ ha
 refine⟨_,rfl,_,_,_,_,_,rfl,B0.ins,T.bM.cl,T.aI,bc,_,rfl,z.P,_,rfl,B0.get g2,?_⟩;refine⟨_,rfl,_,rfl,_,_,_,_,_,rfl,R.ins,T.Paper.cl,T.bG,dN,a,dt,Vbptae.shown (Pb.eB y m d),Vbptae.shown p.day,rfl,rfl,c8.of TH,c8.of R.date,_,rfl,?_⟩;rw[eY (eW (Pb.fO h3)) (eW (B.vn hp))];refine jb (λh4=>?_) (λh4=>?_)
 ·exact⟨one_le,k.no (by rw[act,aw (by omega)]) s0 B⟩
 rw[az (by omega)]at act;refine⟨_,rfl,_,_,_,_,_,rfl,R.ins,T.Paper.cl,T.dE,jq,_,rfl,?_⟩;have e:(!decide (pu=V.fL))=!p.shown.isNone:=by
  have ho:=R.shown;cases j7:p.shown with
  |none=>rw[j7]at ho;have:pu=.fL:=ho;rw[this];rfl
  |some o=>rw[j7]at ho;obtain⟨a,e1,_⟩:=ho;rw[e1];simp
 rw[e];refine kK (λh5=>?_) (λh5=>?_)
 ·exact⟨one_le,k.no (by rw[act,aw (by rw[h5];exact aK)]) s0 B⟩
 rw[az h5]at act;rw[act]at wf;refine⟨_,rfl,_,rfl,z.pa p.num,_,dx,_,rfl,R.ins,T.Paper.cl,T.dE,(by show 9<1000;decide),?_⟩;rw[vf];have k1:Ko (z.pa p.num) H0 (upd H0 (z.pa p.num) (.ins T.Paper.C dx (pF p.num p.who (.ref dt) (.ref bl) p.parent (.ref (z.nd p.num)) wd (Ig p.out) (.ref a)))):=Ko.upd;have kl:=k1.kl R.ins rfl;have ne:z.nd p.num≠z.pa p.num:=cF R.named R.ins (by intro q;cases q);refine⟨one_le,k.put act (s0.kl.trans kl) rfl (B0.chg (f:=λr=>{r with shown:=some (Pb.eB y m d)}) hp R.ins (.inl rfl) k1 ⟨dx,dt,bl,nm,wd,.ref a,ai,kl.tup R.date,R.boxes.keep kl,?_,R.perm,R.out.keep kl,⟨a,rfl,kl.tup TH⟩⟩ (λ_=>rfl) (λ_=>rfl) wf)⟩;rw[aG ne];exact R.named
def Gf(s:State)(p:Paper)(t:Nat):Bool:=decide (p.day<=t)&&!(s.papers.any λr=>r.parent==p.num&&decide (t<r.day))
def MF(T:Tx K mg base):Sp:=λvs H Q _=>∃(z:Ad)(s:State)(L:List Paper)(M:List Deed)(p:Paper)(d:Addr)(t:Nat),vs=[.ref z.b,.ref (z.pa p.num),.ref d]/\WX T z s L M H/\p∈L/\H d=some (.tup (dv t))/\VN t/\∀H',aS H H'->Q (.bl (Gf s p t)) H'
theorem qL(T:Tx K mg base):Ok P w base 1 T.jP (MF T):=by
 have nd:=kH.nd;refine T.jP.ok kH λH vs Q E hr h=>?_
 obtain⟨z,s,L,M,p,d,t,rfl,B,hp,hd,vt,k⟩:=h;refine⟨_,(af (bt (bB (mf (K:=K) rfl hr.ji) (pv 2) (aF (pv 1) rfl) (bK _)) (au (aH jo)) aQ)
   (au (aH (Kn (xy<|bQ (LQ rfl) (by rfl) T.OW boot_any (ag (oK rfl nd (i7 (aF (pv 0) rfl)) (fI (N:=["book","paper","date","other"]) (sc:=aL iX) (own:=[("other",3)]) (by decide +kernel)) (λ_ _ _ _ _=>(gl 3 nd)) (λ_ _ _ _ _=>jn) (λ_ _ _ _ _=>(pI (gg eA (gf (K:=K) rfl (pv 3) rfl) (gf (K:=K) rfl (pv 1) rfl) (bK _)) (nQ (gg (mf (K:=K) rfl hr.ji) (pv 2) (gf (K:=K) rfl (pv 3) rfl) (bK _)))))) ah)))))),?_⟩
 obtain⟨dx,dt,bl,nm,wd,pu,R⟩:=id (B.paper p hp);refine⟨_,rfl,_,rfl,_,_,_,_,_,rfl,R.ins,T.Paper.cl,T.bG,dN,d,dt,Vbptae.shown t,Vbptae.shown p.day,rfl,rfl,c8.of hd,c8.of R.date,_,rfl,?_⟩;rw[eY vt (eW (B.vn hp))];refine jb (λh1=>?_) (λh1=>?_)
 ·have q:=k H (aS.refl _)
  rw[show Gf s p t=false by unfold Gf;rw[aD (by omega),d8]]at q;exact q
 refine⟨z.P,_,B.hP,True.intro,λod=>?_⟩;have lk:∀{a:Addr}{o:HO},H a=some o->(∀q,o≠ .dK q)->(upd H z.P (.iV od (.dK (kJ z L)))) a=some o:=λha ho=>by rw[aG (cF ha B.hP (ho _))];exact ha
 have VY:=lk B.ins (λ_ q=>by cases q);have fP:(upd H z.P (.iV od (.dK (kJ z L)))) z.P=some (.iV od (.dK (kJ z L))):=ai;have ipL:=lk R.ins (λ_ q=>by cases q);have hdL:=lk hd (λ_ q=>by cases q);have paL:∀q∈L,∃dx dt bl nm wd pu,(upd H z.P (.iV od (.dK (kJ z L)))) (z.pa q.num)=some (.ins T.Paper.C dx (pF q.num q.who (.ref dt) (.ref bl) q.parent (.ref (z.nd q.num)) wd (Ig q.out) pu))/\(upd H z.P (.iV od (.dK (kJ z L)))) dt=some (.tup (dv q.day)):=λq hq=>by
  obtain⟨dx,dt,bl,nm,wd,pu,R⟩:=B.paper q hq;exact⟨dx,dt,bl,nm,wd,pu,lk R.ins (λ_ q=>by cases q),lk R.date (λ_ q=>by cases q)⟩
 have back:∀H',aS (upd H z.P (.iV od (.dK (kJ z L)))) H'->aS H (upd H' z.P (.dK (kJ z L))):=λH' s' b o e=>by
  by_cases h:b=z.P
  ·subst h;rw[B.hP]at e;rw[ai,e]
  ·rw[aG h];exact s' _ _ (by rw[aG h];exact e)
 generalize upd H z.P (.iV od (.dK (kJ z L)))=HL at*;refine⟨_,rfl,_,_,_,_,_,rfl,VY,T.bM.cl,T.aI,bc,z.P,od,_,rfl,fP,λD hD=>Ny (L:=L) hC hD (by have:=B.uq;omega) (λq=>.bl (decide (V.int (q.parent:Int)=V.int (p.num:Int))&&decide (t<q.day))) (λi H' hi s=>pV (s _ _ fP) (by rw[gR];exact hi)) (λH' s=>by have q:=kh (s _ _ fP);rw[gR]at q;exact q) (λi q x H1 H2 N1 hi s1 y kk=>?_) λH' s1 e=>?_⟩
 ·obtain⟨rfl,key,hx⟩:=y
  have ex:=nN hi hx;subst ex;have hq:q∈L:=aY hi;obtain⟨sL,AB,Fb,Oz,Mq,M9,i1,i2⟩:=paL q hq;refine⟨rfl,xK (decide (V.int (q.parent:Int)=V.int (p.num:Int))) (decide (t<q.day)) (λQ' k'=>?_) (λ_ Q' k'=>?_) (kk _ (aS.refl _))⟩
  ·exact⟨_,rfl,_,_,_,_,_,rfl,s1 _ _ i1,T.Paper.cl,T.de,ir,_,rfl,_,_,_,_,_,rfl,s1 _ _ ipL,T.Paper.cl,T.bS,df,rfl,k'⟩
  ·refine⟨_,rfl,_,rfl,_,_,_,_,_,rfl,s1 _ _ i1,T.Paper.cl,T.bG,dN,d,AB,Vbptae.shown t,Vbptae.shown q.day,rfl,rfl,c8.of (s1 _ _ hdL),c8.of (s1 _ _ i2),?_⟩
   rw[eY vt (eW (B.vn hq))];exact k'
 ·refine⟨D,L.map λq=>decide (V.int (q.parent:Int)=V.int (p.num:Int))&&decide (t<q.day),rfl,cG.of (by rw[e,bC];rfl),s1 _ _ fP,_,rfl,?_⟩
  rw[any_map,Pb.EW B.i6];have q:=k _ (back H' s1);rw[show Gf s p t=!(s.papers.any λq=>decide (V.int (q.parent:Int)=V.int (p.num:Int))&&decide (t<q.day)) by
   unfold Gf;rw[aJ (by omega),k9];congr 2
   funext r
   rw[xa];congr 1;rw[bz,fb,bj];omega]at q
  exact q
def Fx(T:Tx K mg base):Sp:=λvs H Q _=>∃(z:Ad)(s:State)(L:List Paper)(M:List Deed)(n:Int)(a:Addr)(y m d x:Int),vs=[.ref z.b,.int n,.ref a,.int x]/\KX T z s L M H/\H a=some (.tup [.int y,.int m,.int d])/\Done T z s (.withdraw n y m d x) H Q
theorem uf(T:Tx K mg base):Ok P w base 4 T.lA (Fx T):=by
 have nd:=lW.nd;refine T.lA.ok lW λH vs Q E hr h=>?_
 obtain⟨z,s,L,M,n,a,y,m,d,x,rfl,B,ha,k⟩:=h;have hu:=ft hr;refine⟨_,(af (bt (cZ (uc hG hG aC (pv 3) aC)) (au (aH (a7 (ag (bX rfl T.gw) ah)))) aQ)
   (af (bt (cZ (cR (pc T.j6 (hU T) hr (av 2 ah)))) (au (aH (a7 (ag (bX rfl T.i9) ah)))) aQ)
   (af (bt (cS (cH hu (pv 1) (aF (pv 0) rfl))) (au (aH (a7 (ag (bX rfl T.dz) ah)))) aQ)
   (af (sl 4 nd (eJ hu (aF (pv 0) rfl) (pv 1) (λ_ _=>rfl)))
   (af (bt (cZ (cR (pc T.jP (qL T) hr (av 0 (av 4 (av 2 ah)))))) (au (aH (a7 (ag (bX rfl T.eQ) ah)))) aQ)
   (af (bt (cS (xA (aF (pv 4) rfl))) (au (aH (a7 (ag (bX rfl T.gh) ah)))) aQ)
   (af (eE (pv 4) (pv 2) rfl)
   (af (eE (pv 4) (gg eA (pv 3) aC (bK _)) rfl)
   (au (aH (a7 (ag aC ah)))))))))))),?_⟩
 have act:=Pb.oq s n y m d x;have wf:=Pb.kx B.wf (.withdraw n y m d x);refine⟨_,rfl,_,_,rfl,rfl,_,rfl,jb (λh1=>?_) (λh1=>?_)⟩
 rotate_left
 ·exact⟨_,rfl,gU ⟨one_le,k.no (by rw[act,aw (by omega)]) (aS.refl _) B⟩⟩
 refine⟨_,_,rfl,rfl,_,rfl,gS (λh2=>?_) (λh2=>?_)⟩
 ·exact⟨one_le,k.no (by rw[act,aw (by omega)]) (aS.refl _) B⟩
 rw[az ⟨h1,h2⟩]at act;refine⟨_,rfl,a,y,m,d,rfl,c8.of ha,λH0 s0=>⟨_,rfl,gS (λh3=>?_) (λh3=>?_)⟩⟩
 ·exact⟨one_le,k.no (by rw[act,aw h3]) s0 B⟩
 rw[az h3]at act;have B0:=B.same s0;refine⟨_,rfl,_,rfl,_,_,_,_,_,rfl,B0.ins,T.bM.cl,T.aI,bc,z.P,_,rfl,eG.rd (k:=Sum.inl n) B0.papers,_,rfl,?_⟩;rcases B0.look n with⟨g1,g2⟩|⟨p,hp,rfl,g1,g2⟩
 ·rw[g2]
  rw[g1]at act;dsimp only at act;exact gU ⟨one_le,k.no (by rw[act]) s0 B⟩
 rw[g2];rw[g1]at act;dsimp only at act;refine iZ ?_;have TH:H0 a=some (.tup (dv (Pb.eB y m d))):=by rw[<-ml h3];exact s0 _ _ ha
 refine⟨_,rfl,_,_,_,_,_,rfl,B0.ins,T.bM.cl,T.aI,bc,_,rfl,z.P,_,rfl,B0.get g2,?_⟩;refine⟨_,rfl,_,rfl,_,rfl,z,s,L,M,p,a,Pb.eB y m d,rfl,B0.toWX,hp,TH,eW (Pb.fO h3),λH1 BK=>⟨_,rfl,?_⟩⟩;have s1:=s0.trans BK;have B1:=B.same s1;have Lk:=BK _ _ TH;have fit:Gf s p (Pb.eB y m d)=true↔(p.day<=Pb.eB y m d/\(s.papers.any λr=>r.parent==p.num&&decide (Pb.eB y m d<r.day))=false):=by
  unfold Gf;rw[a6,bj,f6]
 refine kK (λh4=>?_) (λh4=>?_)
 ·exact⟨one_le,k.no (by rw[act,aw (λg=>by rw[fit.mpr g]at h4;cases h4)]) s1 B⟩
 rw[az (fit.mp h4)]at act;obtain⟨dx,dt,bl,nm,wd,pu,R⟩:=id (B1.paper p hp);refine⟨_,rfl,_,_,_,_,_,rfl,R.ins,T.Paper.cl,T.cV,gF,_,rfl,?_⟩;have e:(!decide (wd=V.fL))=!p.out.isNone:=by
  have ho:=R.out;cases j7:p.out with
  |none=>rw[j7]at ho;have:wd=.fL:=ho;rw[this];rfl
  |some o=>rw[j7]at ho;obtain⟨a,e1,_⟩:=ho;rw[e1];simp
 rw[e];refine kK (λh5=>?_) (λh5=>?_)
 ·exact⟨one_le,k.no (by rw[act,aw (by rw[h5];exact aK)]) s1 B⟩
 rw[az h5]at act;rw[act]at wf;refine⟨_,rfl,_,rfl,z.pa p.num,_,dx,_,rfl,R.ins,T.Paper.cl,T.cV,(by show 9<1000;decide),?_⟩;rw[ve];refine⟨_,rfl,rfl,_,rfl,z.pa p.num,_,dx,_,rfl,ai,T.Paper.cl,T.fT,(by show 9<1000;decide),?_⟩;rw[sx];have k1:Ko (z.pa p.num) H1 (upd (upd H1 (z.pa p.num) (.ins T.Paper.C dx (pF p.num p.who (.ref dt) (.ref bl) p.parent (.ref (z.nd p.num)) (.ref a) (Ig p.out) pu))) (z.pa p.num) (.ins T.Paper.C dx (pF p.num p.who (.ref dt) (.ref bl) p.parent (.ref (z.nd p.num)) (.ref a) (decide (V.int x=V.int 1)) pu))):=Ko.upd.trans Ko.upd;have kl:=k1.kl R.ins rfl;have ne:z.nd p.num≠z.pa p.num:=cF R.named R.ins (by intro q;cases q);have ex:decide (V.int x=V.int 1)=(x.toNat==1):=by
  rw[xa,bz,bj,fb];omega
 refine⟨one_le,k.put act (s1.kl.trans kl) rfl (B1.chg (f:=λr=>{r with out:=some (Pb.eB y m d,x.toNat==1)}) hp R.ins (.inl rfl) k1 ⟨dx,dt,bl,nm,.ref a,pu,?_,kl.tup R.date,R.boxes.keep kl,?_,R.perm,⟨a,rfl,kl.tup Lk⟩,R.shown.keep kl⟩ (λ_=>rfl) (λ_=>rfl) wf)⟩
 ·rw[ai,ex];rfl
 ·rw[aG ne,aG ne];exact R.named
def PF(T:Tx K mg base):Sp:=λvs H Q _=>∃(z:Ad)(s:State)(L:List Paper)(M:List Deed)(n q g t:Int)(a:Addr)(y m d:Int)(r:Addr)(ns:List Int),vs=[.ref z.b,.int n,.int q,.int g,.int t,.ref a,.ref r]/\KX T z s L M H/\H a=some (.tup [.int y,.int m,.int d])/\cG K H r (ns.map V.int)/\ns.length<=100/\Done T z s (.hand n q g t y m d ns) H Q
theorem Aq(T:Tx K mg base):Ok P w base 4 T.sH (PF T):=by
 have nd:=qY.nd;refine T.sH.ok qY λH vs Q E hr h=>?_
 obtain⟨z,s,L,M,n,q,g,t,a,y,m,d,r,ns,rfl,B,ha,fh,hlen,k⟩:=h;have hu:=ft hr;refine⟨_,(af (bt (PW.pt (mS (cZ (cR (pc T.mZ (nU T) hr (av 1 ah)))) (mS (cZ (cR (pc T.hW (hJ T) hr (av 3 ah)))) (mw (cZ (cR (pc T.hW (hJ T) hr (av 4 ah)))))))) (au (aH (a7 (ag (bX rfl T.gw) ah)))) aQ)
   (af (bt (cZ (cR (pc T.j6 (hU T) hr (av 5 ah)))) (au (aH (a7 (ag (bX rfl T.i9) ah)))) aQ)
   (af (bt (cZ (cR (pc T.lr (kQ T) hr (ag (aF (pv 0) rfl) (av 6 (ag aC ah)))))) (au (aH (a7 (ag (bX rfl T.fH) ah)))) aQ)
   (af (bt (cS (cH hu (pv 2) (aF (pv 0) rfl))) (au (aH (a7 (ag (bX rfl T.dz) ah)))) aQ)
   (af (bt (cS (pJ hu (pv 1) (aF (pv 0) rfl))) (au (aH (a7 (ag (bX rfl T.lJ) ah)))) aQ)
   (af (sl 7 nd (eJ hu (aF (pv 0) rfl) (pv 2) (λ_ _=>rfl)))
   (af (sl 8 nd (pc T.lK (kf T) hr (ag (aF (pv 0) rfl) (av 6 ah))))
   (af (bt (cZ (cR (pc T.iR (jM T) hr (av 7 (av 8 ah))))) (au (aH (a7 (ag (bX rfl T.eQ) ah)))) aQ)
   (af (bt (bB DT (bQ jU (by rfl) T.gz bH (ag (aF (pv 0) rfl) ah)) (bX rfl T.CL) (bK _)) (au (aH (a7 (ag (bX rfl T.zq) ah)))) aQ)
   (af (bt (bB eA (bQ cK (by rfl) T.gz bH (av 8 ah)) aC (bK _)) (au (sl 8 nd (cu dY (by rfl) T.lL boot_list (ag (aF (pv 7) rfl) ah)))) aQ)
   (af (md hu (aF (pv 0) rfl) (pv 1) (ue T.Nt ((Ck T).mono (by decide)) hr rfl T.Deed.mg T.ni.b .nil pK (av 1 (av 2 (av 8 (av 3 (av 4 (av 5 ah))))))) rfl)
   (au (aH (a7 (ag aC ah))))))))))))))),?_⟩
 have act:=Pb.zz s n q g t y m d ns;have wf:=Pb.kx B.wf (.hand n q g t y m d ns);refine mU (!decide (1<=n/\n<=999)) (!decide (1<=g/\g<=20)||!decide (1<=t/\t<=20)) (λQ' q'=>⟨_,rfl,n,rfl,_,rfl,q'⟩) (λ_ Q' q'=>mU (!decide (1<=g/\g<=20)) (!decide (1<=t/\t<=20)) (λQ' q'=>⟨_,rfl,g,rfl,_,rfl,q'⟩) (λ_ Q' q'=>⟨_,rfl,t,rfl,_,rfl,q'⟩) q') ?_;refine mY (λh0=>?_) (λh0=>?_)
 ·refine⟨one_le,k.no ?_ (aS.refl _) B⟩
  rw[act]
  by_cases h1:1<=n/\n<=999
  ·rw[az h1]
   by_cases h2:1<=g/\g<=20
   ·rw[az h2,aw]
    intro h3;rw[aJ h1,aJ h2,aJ h3]at h0;cases h0
   ·rw[aw h2]
  ·rw[aw h1]
 rw[oV,oV]at h0;have h1:1<=n/\n<=999:=by simpa using h0.1
 have h2:1<=g/\g<=20:=by simpa using h0.2.1
 have JJ:1<=t/\t<=20:=by simpa using h0.2.2
 rw[az h1,az h2,az JJ]at act;obtain⟨n,rfl⟩:=vq h1.1;obtain⟨g,rfl⟩:=vq h2.1;obtain⟨t,rfl⟩:=vq JJ.1;rw[b9,b9,b9]at act;refine⟨_,rfl,a,y,m,d,rfl,c8.of ha,λH0 s0=>⟨_,rfl,gS (λh3=>?_) (λh3=>?_)⟩⟩
 ·exact⟨one_le,k.no (by rw[act,aw h3]) s0 B⟩
 rw[az h3]at act;have B0:=B.same s0;refine⟨_,rfl,_,_,_,_,_,rfl,B0.ins,T.bM.cl,T.cJ,fC,_,rfl,z.L,r,s.sizes,ns,0,rfl,cG.of B0.fq,s0.seq fh,B.wf.k1,B.wf.k2,λk hk=>(B.wf.kv k hk).2,hlen,λH1 BK=>⟨_,rfl,gS (λh4=>?_) (λh4=>?_)⟩⟩
 ·exact⟨one_le,k.no (by rw[act,aw h4]) (s0.trans BK) B⟩
 rw[az h4]at act;have s1:=s0.trans BK;have B1:=B.same s1;refine⟨_,rfl,_,rfl,_,_,_,_,_,rfl,B1.ins,T.bM.cl,T.aI,bc,z.P,_,rfl,eG.rd (k:=Sum.inl q) B1.papers,_,rfl,?_⟩;rcases B1.look q with⟨g1,g2⟩|⟨p,hp,rfl,g1,g2⟩
 ·rw[g2]
  rw[g1]at act;dsimp only at act;exact gU ⟨one_le,k.no (by rw[act]) s1 B⟩
 rw[g2];rw[g1]at act;dsimp only at act;refine iZ ?_;refine⟨_,rfl,_,rfl,_,_,_,_,_,rfl,B1.ins,T.bM.cl,T.gM,qg,z.D,_,rfl,eG.rd (k:=Sum.inl (n:Int)) B1.deeds,_,rfl,?_⟩;rcases B1.TZ n with⟨g3,g4⟩|⟨g3,g4⟩
 rotate_left
 ·rw[g4]
  exact gU ⟨one_le,k.no (by rw[act,aw g3]) s1 B⟩
 rw[g4];rw[az g3]at act;refine iZ ?_;refine⟨_,rfl,_,_,_,_,_,rfl,B1.ins,T.bM.cl,T.aI,bc,_,rfl,z.P,_,rfl,B1.get g2,?_⟩;refine⟨_,rfl,_,_,_,_,_,rfl,B1.ins,T.bM.cl,T.cJ,fC,_,rfl,z.L,r,s.sizes,ns,rfl,cG.of B1.fq,s1.seq fh,B.wf.k1,B.wf.k2,hlen,h4.1,λH2 lb as Mc _ eb tb=>?_⟩;have tb:=tb.boxes h4;have s2:=s1.trans Mc;have B2:=B.same s2;have Uz:(Pb.cw s.sizes ns).length<=12:=by rw[Pb.eR];exact h4.2.2.1
 have UP:H2 a=some (.tup (dv (Pb.eB y m d))):=by rw[<-ml h3];exact s2 _ _ ha
 generalize hbs:Pb.cw s.sizes ns=bs at act tb Uz;refine⟨_,rfl,_,rfl,z.pa p.num,z.nd p.num,lb,p,as,bs,rfl,B2.paper p hp,cG.of eb,tb.lB,by omega,λH3 FJ=>⟨_,rfl,?_⟩⟩;have s3:=s2.trans FJ;have B3:=B.same s3;have fit:(bs.all λb=>p.boxes.contains b)=true↔(∀b∈bs,b∈p.boxes):=by
  rw[bE];simp only[gH]
 refine kK (λh5=>?_) (λh5=>?_)
 ·exact⟨one_le,k.no (by rw[act,aw (λg=>by rw[fit.mpr g]at h5;cases h5)]) s3 B⟩
 rw[az (fit.mp h5)]at act;refine⟨_,rfl,_,_,_,_,_,rfl,B3.ins,T.bM.cl,T.gM,qg,z.D,_,rfl,B3.hD,_,_,rfl,rfl,_,rfl,jb (λh6=>?_) (λh6=>?_)⟩
 ·rw[sN,B.iB.length_eq]at h6
  exact⟨one_le,k.no (by rw[act,aw (by omega)]) s3 B⟩
 have dl:(rK z M).length<sizeLine:=by rw[sN,B.iB.length_eq,bo];have:=B.wf.dl;omega
 rw[sN,B.iB.length_eq]at h6;rw[az (by omega)]at act;rw[act]at wf;have Q7:=FJ _ _ eb;have RX:=tb.keep FJ.kl;have ha3:=FJ _ _ UP;obtain⟨dx,dt,bl,nm,wd,pu,R⟩:=id (B3.paper p hp);obtain⟨cs,nt,vF⟩:=R.boxes;have la:(as.map V.ref).length=bs.length:=by rw[ab,tb.1]
 refine⟨_,rfl,lb,_,rfl,.inl (cG.of Q7),rfl,_,rfl,kg (λh7=>?_) (λh7=>?_)⟩
 ·rw[la]at h7
  have Xd:bs.isEmpty=true:=by rw[List.isEmpty_iff,<-iL];omega
  rw[Xd,az rfl]at act wf;refine⟨_,rfl,_,_,_,_,_,rfl,R.ins,T.Paper.cl,T.cC,fS,bl,_,rfl,.inl (cG.of nt),λlc nlc=>?_⟩;have Sv:=aS.new (o:=.lst (cs.map V.ref)) nlc;have elc:upd H3 lc (.lst (cs.map V.ref)) lc=some (.lst (cs.map V.ref)):=ai;generalize upd H3 lc (.lst (cs.map V.ref))=H4 at Sv elc;have B4:=B3.same Sv;have s4:=s3.trans Sv;refine⟨_,rfl,_,rfl,_,rfl,_,rfl,_,rfl,_,rfl,?_⟩;intro x sL nx zM RC;refine⟨x,sL,n,p.num,g,t,.ref lc,.ref a,rfl,ai,λH5 e2 e4=>⟨rfl,?_⟩⟩;obtain⟨s5,W2,kl,z',hz,X⟩:=B4.G7 (d:={num:=n,paper:=p.num,giver:=g,taker:=t,day:=Pb.eB y m d,boxes:=p.boxes}) nx zM e2 e4 (Sv _ _ ha3) ⟨cs,elc,vF.keep Sv.kl⟩ g3 wf;refine⟨_,rfl,_,_,_,_,_,rfl,s5 _ _ B4.ins,T.bM.cl,T.gM,qg,_,rfl,z.D,_,rfl,sZ.k (k:=Sum.inl (n:Int)) W2 dl,?_⟩;rw[jm _ g4];exact⟨one_le,k.put act (s4.kl.trans kl) hz X⟩
 ·rw[la]at h7
  have Xd:bs.isEmpty=false:=by
   cases bs with
   |nil=>exact absurd rfl h7
   |cons _ _=>rfl
  rw[Xd,aw aK]at act wf;refine⟨_,rfl,_,rfl,_,rfl,_,rfl,_,rfl,_,rfl,?_⟩;intro x sL nx zM RC;refine⟨x,sL,n,p.num,g,t,.ref lb,.ref a,rfl,ai,λH5 e2 e4=>⟨rfl,?_⟩⟩;obtain⟨s5,W2,kl,z',hz,X⟩:=B3.G7 (d:={num:=n,paper:=p.num,giver:=g,taker:=t,day:=Pb.eB y m d,boxes:=bs}) nx zM e2 e4 ha3 ⟨as,Q7,RX⟩ g3 wf;refine⟨_,rfl,_,_,_,_,_,rfl,s5 _ _ B3.ins,T.bM.cl,T.gM,qg,_,rfl,z.D,_,rfl,sZ.k (k:=Sum.inl (n:Int)) W2 dl,?_⟩;rw[jm _ g4];exact⟨one_le,k.put act (s3.kl.trans kl) hz X⟩
theorem Done.mono{T:Tx K mg base}{z:Ad}{s:State}{c:Call}{H H1:Hp}{Q:VK}(k:Done T z s c H Q)(k1:Kl H H1):Done T z s c H1 Q:=λH' l z' L' M' k2 hz X e=>k H' l z' L' M' (k1.trans k2) hz X e
def PB(T:Tx K mg base):Sp:=λvs H Q _=>∃(z:Ad)(s:State)(L:List Paper)(M:List Deed)(j:Nat)(a r:Addr)(x row:List Int)(n:Nat),vs=[.ref z.b,.int j,.ref a,.ref r]/\KX T z s L M H/\cG K H a (x.map V.int)/\cG K H r (row.map V.int)/\row.length<=100/\j<10/\Pb.dS[j]?=some (x.length,n)/\Done T z s (Pb.sC j x row) H Q
theorem Np(T:Tx K mg base):Ok P w base 5 T.keep (PB T):=by
 refine T.keep.ok MX λH vs Q E hr h=>?_
 obtain⟨z,s,L,M,j,a,r,x,row,fk,rfl,B,hx,fh,hn,hj,hf,k⟩:=h;refine⟨_,(af (bt (bB eA (pv 1) aC (bK _)) (au (aH (pc T.u7 (Cf T) hr (av 0 (av 3 ah))))) aQ)
   (af (bt (bB eA (pv 1) aC (bK _)) (au (aH (pc T.xZ (DW T) hr (av 0 (av 3 ah))))) aQ)
   (af (bt (bB eA (pv 1) aC (bK _)) (au (aH (pc T.vO (Cj T) hr (av 0 (ag (cu cQ (by rfl) T.gT boot_tuple (av 2 ah)) ah))))) aQ)
   (af (bt (bB eA (pv 1) aC (bK _)) (au (aH (pc T.sJ (Ar T) hr (av 0 (ag (cA cW (pv 2) aC (λ_ _=>rfl)) (ag (cA cW (pv 2) aC (λ_ _=>rfl)) (ag (cu cQ (by rfl) T.gT boot_tuple (ag (iP jZ (pv 2) (gQ aC) qt) ah)) (av 3 ah)))))))) aQ)
   (af (bt (bB eA (pv 1) aC (bK _)) (au (aH (pc T.sr (Ao T) hr (av 0 (ag (cA cW (pv 2) aC (λ_ _=>rfl)) (ag (cA cW (pv 2) aC (λ_ _=>rfl)) (ag (cu cQ (by rfl) T.gT boot_tuple (ag (iP jZ (pv 2) (gQ aC) qt) ah)) (av 3 ah)))))))) aQ)
   (af (bt (bB eA (pv 1) aC (bK _)) (au (aH (pc T.sA (Ap T) hr (av 0 (ag (cA cW (pv 2) aC (λ_ _=>rfl)) (ag (cA cW (pv 2) aC (λ_ _=>rfl)) ah)))))) aQ)
   (af (bt (bB eA (pv 1) aC (bK _)) (au (aH (pc T.oh (w6 T) hr (av 0 (ag (cA cW (pv 2) aC (λ_ _=>rfl)) (ag (cA cW (pv 2) aC (λ_ _=>rfl)) ah)))))) aQ)
   (af (bt (bB eA (pv 1) aC (bK _)) (au (aH (pc T.lA (uf T) hr (av 0 (ag (cA cW (pv 2) aC (λ_ _=>rfl)) (ag (cu cQ (by rfl) T.gT boot_tuple (ag (iP jZ (pv 2) (gQ aC) (gQ aC)) ah)) (ag (cA cW (pv 2) aC (λ_ _=>rfl)) ah))))))) aQ)
   (af (bt (bB eA (pv 1) aC (bK _)) (au (aH (pc T.mx (vj T) hr (av 0 (ag (cA cW (pv 2) aC (λ_ _=>rfl)) (ag (cu cQ (by rfl) T.gT boot_tuple (ag (iP jZ (pv 2) (gQ aC) qt) ah)) ah)))))) aQ)
   (au (aH (pc T.sH (Aq T) hr (av 0 (ag (cA cW (pv 2) aC (λ_ _=>rfl)) (ag (cA cW (pv 2) aC (λ_ _=>rfl)) (ag (cA cW (pv 2) aC (λ_ _=>rfl)) (ag (cA cW (pv 2) aC (λ_ _=>rfl)) (ag (cu cQ (by rfl) T.gT boot_tuple (ag (iP jZ (pv 2) (gQ aC) qt) ah)) (av 3 ah))))))))))))))))))),?_⟩
 have fin:∀{m l:Nat},Pb.dS[m]?=some (x.length,fk)->(Pb.dS[m]?).map (·.1)=some l->x.length=l:=λe1 e2=>by rw[e1]at e2;exact bw e2
 refine⟨_,rfl,rfl,_,rfl,kg (λh=>?_) (λh0=>?_)⟩
 ·have ej:j=0:=by omega
  subst ej;obtain rfl:x=[]:=iL.mp (fin hf rfl);exact⟨_,rfl,_,rfl,z,s,L,M,r,row,rfl,B,fh,hn,k⟩
 refine⟨_,rfl,rfl,_,rfl,kg (λh=>?_) (λh1=>?_)⟩
 ·have ej:j=1:=by omega
  subst ej;obtain rfl:x=[]:=iL.mp (fin hf rfl);exact⟨_,rfl,_,rfl,z,s,L,M,r,row,rfl,B,fh,hn,k⟩
 refine⟨_,rfl,rfl,_,rfl,kg (λh=>?_) (λh2=>?_)⟩
 ·have ej:j=2:=by omega
  subst ej;obtain⟨y,m,d,rfl⟩:=Pb.SR (fin hf rfl);refine⟨_,rfl,_,rfl,a,_,rfl,.inl ⟨hx,λt ht=>?_⟩⟩;have s1:=aS.new (o:=.tup ([y,m,d].map V.int)) ht
  exact⟨z,s,L,M,t,y,m,d,rfl,B.same s1,(by rw[ai];rfl),k.mono s1.kl⟩
 refine⟨_,rfl,rfl,_,rfl,kg (λh=>?_) (λh3=>?_)⟩
 ·have ej:j=3:=by omega
  subst ej;obtain⟨n,q,y,m,d,rfl⟩:=Pb.Ee (fin hf rfl);refine⟨_,rfl,_,rfl,_,_,_,_,rfl,rfl,hx,rfl,_,rfl,_,_,_,_,rfl,rfl,hx,rfl,_,rfl,_,rfl,a,_,rfl,hx,λp hp=>⟨p,_,rfl,.inl ⟨cG.of ai,λt ht=>?_⟩⟩⟩;have s1:=(aS.new (o:=.lst (kR ([n,q,y,m,d].map V.int) (some 2) none)) hp).trans (aS.new (o:=.tup (kR ([n,q,y,m,d].map V.int) (some 2) none)) ht)
  exact⟨_,rfl,z,s,L,M,n,q,t,y,m,d,r,row,rfl,B.same s1,(by rw[ai];rfl),s1.seq fh,hn,k.mono s1.kl⟩
 refine⟨_,rfl,rfl,_,rfl,kg (λh=>?_) (λh4=>?_)⟩
 ·have ej:j=4:=by omega
  subst ej;obtain⟨n,q,y,m,d,rfl⟩:=Pb.Ee (fin hf rfl);refine⟨_,rfl,_,rfl,_,_,_,_,rfl,rfl,hx,rfl,_,rfl,_,_,_,_,rfl,rfl,hx,rfl,_,rfl,_,rfl,a,_,rfl,hx,λp hp=>⟨p,_,rfl,.inl ⟨cG.of ai,λt ht=>?_⟩⟩⟩;have s1:=(aS.new (o:=.lst (kR ([n,q,y,m,d].map V.int) (some 2) none)) hp).trans (aS.new (o:=.tup (kR ([n,q,y,m,d].map V.int) (some 2) none)) ht)
  exact⟨_,rfl,z,s,L,M,n,q,t,y,m,d,r,row,rfl,B.same s1,(by rw[ai];rfl),s1.seq fh,hn,k.mono s1.kl⟩
 refine⟨_,rfl,rfl,_,rfl,kg (λh=>?_) (λh5=>?_)⟩
 ·have ej:j=5:=by omega
  subst ej;obtain⟨n,q,rfl⟩:=Pb.Cq (fin hf rfl);exact⟨_,rfl,_,rfl,_,_,_,_,rfl,rfl,hx,rfl,_,rfl,_,_,_,_,rfl,rfl,hx,rfl,z,s,L,M,n,q,rfl,B,k⟩
 refine⟨_,rfl,rfl,_,rfl,kg (λh=>?_) (λh6=>?_)⟩
 ·have ej:j=6:=by omega
  subst ej;obtain⟨n,q,rfl⟩:=Pb.Cq (fin hf rfl);exact⟨_,rfl,_,rfl,_,_,_,_,rfl,rfl,hx,rfl,_,rfl,_,_,_,_,rfl,rfl,hx,rfl,z,s,L,M,n,q,rfl,B,k⟩
 refine⟨_,rfl,rfl,_,rfl,kg (λh=>?_) (λh7=>?_)⟩
 ·have ej:j=7:=by omega
  subst ej;obtain⟨n,y,m,d,e,rfl⟩:=Pb.Ee (fin hf rfl);refine⟨_,rfl,_,rfl,_,_,_,_,rfl,rfl,hx,rfl,_,rfl,_,rfl,_,rfl,a,_,rfl,hx,λp hp=>⟨p,_,rfl,.inl ⟨cG.of ai,λt ht=>?_⟩⟩⟩;have s1:=(aS.new (o:=.lst (kR ([n,y,m,d,e].map V.int) (some 1) (some 4))) hp).trans (aS.new (o:=.tup (kR ([n,y,m,d,e].map V.int) (some 1) (some 4))) ht)
  exact⟨_,rfl,_,_,_,_,rfl,rfl,s1.seq hx,rfl,z,s,L,M,n,t,y,m,d,e,rfl,B.same s1,(by rw[ai];rfl),k.mono s1.kl⟩
 refine⟨_,rfl,rfl,_,rfl,kg (λh=>?_) (λh8=>?_)⟩
 ·have ej:j=8:=by omega
  subst ej;obtain⟨n,y,m,d,rfl⟩:=Pb.Ef (fin hf rfl);refine⟨_,rfl,_,rfl,_,_,_,_,rfl,rfl,hx,rfl,_,rfl,_,rfl,a,_,rfl,hx,λp hp=>⟨p,_,rfl,.inl ⟨cG.of ai,λt ht=>?_⟩⟩⟩;have s1:=(aS.new (o:=.lst (kR ([n,y,m,d].map V.int) (some 1) none)) hp).trans (aS.new (o:=.tup (kR ([n,y,m,d].map V.int) (some 1) none)) ht)
  exact⟨z,s,L,M,n,t,y,m,d,rfl,B.same s1,(by rw[ai];rfl),k.mono s1.kl⟩
 have ej:j=9:=by omega
 subst ej;obtain⟨n,q,g,t0,y,m,d,rfl⟩:=Pb.Qu (fin hf rfl);refine⟨_,rfl,_,rfl,_,_,_,_,rfl,rfl,hx,rfl,_,rfl,_,_,_,_,rfl,rfl,hx,rfl,_,rfl,_,_,_,_,rfl,rfl,hx,rfl,_,rfl,_,_,_,_,rfl,rfl,hx,rfl,_,rfl,_,rfl,a,_,rfl,hx,λp hp=>⟨p,_,rfl,.inl ⟨cG.of ai,λt ht=>?_⟩⟩⟩;have s1:=(aS.new (o:=.lst (kR ([n,q,g,t0,y,m,d].map V.int) (some 4) none)) hp).trans (aS.new (o:=.tup (kR ([n,q,g,t0,y,m,d].map V.int) (some 4) none)) ht)
 exact⟨_,rfl,z,s,L,M,n,q,g,t0,t,y,m,d,r,row,rfl,B.same s1,(by rw[ai];rfl),s1.seq fh,hn,k.mono s1.kl⟩
end
theorem LO{ns pre x rest:List Int}(e:ns=pre++(x++rest)){a b:Int}(ha:a=pre.length)(hb:b=pre.length+x.length):kR (ns.map V.int) (some a) (some b)=x.map V.int:=by
 subst ha hb e;have q:=EE (ns:=pre++(x++rest)) (a:=pre.length) (b:=pre.length+x.length) (by simp);rw[show((pre.length:Int)+(x.length:Int))=((pre.length+x.length:Nat):Int) by simp,q,List.drop_left,Nat.add_sub_cancel_left,List.take_left]
theorem OX{ns pre rest:List Int}{v:Int}(e:ns=pre++(v::rest)){a:Int}(ha:a=pre.length):Rh (ns.map V.int) a=some (.int v):=by
 subst ha e;exact HB (by rw[aW,bD (ay _),gY];rfl)
def zG(H0 H:Hp)(c:Addr)(p:Pb.f9):Prop:=∃a r,H0 a=none/\H0 r=none/\H c=some (.tup [.int p.j,.ref a,.ref r])/\H a=some (.lst (p.x.map V.int))/\H r=some (.lst (p.row.map V.int))
def kG(H0 H:Hp)(cs:List Addr)(ps:List Pb.f9):Prop:=cs.length=ps.length/\∀(i:Nat)(c:Addr)(p:Pb.f9),cs[i]?=some c->ps[i]?=some p->zG H0 H c p
theorem zG.keep{H0 H H':Hp}{c:Addr}{p:Pb.f9}(k:∀b o,H b=some o->sq o=true->H0 b=none\/(∃xs,o=.tup xs)->H' b=some o)(h:zG H0 H c p):zG H0 H' c p:=by
 obtain⟨a,r,n1,n2,h1,h2,h3⟩:=h;exact⟨a,r,n1,n2,k _ _ h1 rfl (.inr ⟨_,rfl⟩),k _ _ h2 rfl (.inl n1),k _ _ h3 rfl (.inl n2)⟩
theorem kG.keep{H0 H H':Hp}{cs:List Addr}{ps:List Pb.f9}(k:∀b o,H b=some o->sq o=true->H0 b=none\/(∃xs,o=.tup xs)->H' b=some o)(h:kG H0 H cs ps):kG H0 H' cs ps:=⟨h.1,λi c p h1 h2=>(h.2 i c p h1 h2).keep k⟩
theorem kG.snoc{H0 H:Hp}{cs:List Addr}{ps:List Pb.f9}{c:Addr}{p:Pb.f9}(h:kG H0 H cs ps)(hc:zG H0 H c p):kG H0 H (cs++ [c]) (ps++ [p]):=by
 refine⟨by rw[aA,aA,h.1];rfl,λi a q h1 h2=>?_⟩
 by_cases hi:i<cs.length
 ·rw[bq hi]at h1
  rw[bq (by rw[<-h.1];exact hi)]at h2;exact h.2 i a q h1 h2
 ·have Cy:i=cs.length:=by have:=(aN.mp h1).1;simp at this;omega
  subst Cy;rw[bD (ay _),gY]at h1;rw[h.1,bD (ay _),gY]at h2;cases h1;cases h2;exact hc
section
variable{P:Program}{w:World}{K:c9}{mg:jB}{base:Heap}
def HW(K:c9):Sp:=λvs H Q _=>∃(a:Addr)(ns:List Int)(ps:List Pb.f9),vs=[.ref a]/\cG K H a (ns.map V.int)/\Pb.oz ns ps/\ps.length<=400/\
 ∀H' l cs,aS H H'->H l=none->H' l=some (.lst (cs.map V.ref))->kG H H' cs ps->Q (.ref l) H'
theorem DX(T:Tx K mg base):Ok P w base 1 T.zo (HW K):=by
 have nd:=wc.nd;refine T.zo.ok wc λH vs Q E hr h=>?_
 obtain⟨a,ns,ps,rfl,ha,hR,UE,k⟩:=h;refine⟨_,(af (sl 1 nd (a7 ah))
   (af (sl 2 nd aC)
   (af (ud cX (bB A3 (pv 2) (bQ cK (by rfl) T.gz bH (av 0 ah)) (bK _)) (af (sl 3 nd (cA cW (pv 0) (pv 2) (λ_ _=>rfl)))
   (af (sl 4 nd (cA dg (G2 (v:=.ref T.dS.a) rfl T.dS.mg rfl) (pv 3) (λ_ _=>rfl)))
   (af (sl 5 nd (dr jr (dr jr (pv 2) aC) (cA dg (pv 4) aC (λ_ _=>rfl))))
   (af (sl 6 nd (iP jZ (pv 0) (gQ (dr jr (pv 2) aC)) (gQ (pv 5))))
   (af (sl 7 nd (a7 ah))
   (af (bt (bB eA (cA dg (pv 4) aC (λ_ _=>rfl)) aC (bK _)) (af (sl 8 nd (dr jr (pv 5) aC))
   (af (sl 5 nd (dr jr (pv 8) (cA cW (pv 0) (pv 5) (λ_ _=>rfl))))
   (au (sl 7 nd (iP jZ (pv 0) (gQ (pv 8)) (gQ (pv 5))))))) aQ)
   (af (fR (oM bV kX kW qu (pv 1) (ag (nO (av 3 (av 6 (av 7 ah)))) ah)))
   (au (sl 2 nd (pv 5)))))))))))
   (au (aH (pv 1)))))),?_⟩
 refine⟨bp _,λf hf=>?_⟩;have s0:=aS.new (o:=.lst []) hf;have ef:upd H f (.lst []) f=some (.lst []):=ai;generalize upd H f (.lst [])=H0 at s0 ef;refine⟨λm σ H'=>∃(done rest:List Pb.f9)(cs:List Addr)(pre t:List Int)(pl:Int)(v3 v4 v5 v6 v7 v8:Option V),ps=done++rest/\Pb.oz t rest/\ns=pre++t/\pl=pre.length/\m=rest.length/\(∀b o,H0 b=some o->b≠f->H' b=some o)/\H' f=some (.lst (cs.map V.ref))/\kG H0 H' cs done/\σ=[some (.ref a),some (.ref f),some (.int pl),v3,v4,v5,v6,v7,v8],
  ⟨ps.length,[],ps,[],[],ns,0,none,none,none,none,none,none,rfl,hR,rfl,rfl,rfl,λb o e _=>e,ef,⟨rfl,λi c p h=>by simp at h⟩,rfl⟩,?_⟩
 rintro m σ H1 ⟨done,rest,cs,pre,t,pl,v3,v4,v5,v6,v7,v8,UW,UC,Q5,Dg,rfl,k1,f1,c1,rfl⟩;have s1:aS H H1:=λb o e=>k1 b o (s0 b o e) (aR e hf)
 have Lk:=s1.seq ha;refine⟨_,rfl,_,rfl,a,_,rfl,.inl Lk,_,_,rfl,rfl,_,rfl,jb (λh1=>?_) (λh1=>?_)⟩
 ·rw[ab,Q5,aA,Dg]at h1
  cases UC with
  |nil=>simp at h1
  | @cons _ t' c Oo n kk R ok JH=>
   have hj:=R.Ls;have WD:c.j<22:=(aN.mp hj).1
   have WE:T.dS.as[c.j]?=some (T.dS.as[c.j]'(by rw[T.dS.len];exact WD)):=ae _;generalize T.dS.as[c.j]'(by rw[T.dS.len];exact WD)=fo at WE;have fsq:=λH=>T.dS.each c.j fo (n,kk) WE hj H
   have eq:=R.eq;refine⟨λgO H'=>∃(LP:List Addr)(Nb:List Int)(Us:Int)(v3 v4 v5 v6 v7 v8:Option V),ns=Nb++t'/\Us=Nb.length/\(∀b o,H0 b=some o->b≠f->H' b=some o)/\H' f=some (.lst (LP.map V.ref))/\kG H0 H' LP (done++ [c])/\gO=[some (.ref a),some (.ref f),some (.int Us),v3,v4,v5,v6,v7,v8],
    λgO H'⟨LP,Nb,Us,v3,v4,v5,v6,v7,v8,g1,g2,g3,g4,g5,g6⟩=>⟨Oo.length,by rw[aq];omega,done++ [c],Oo,LP,Nb,t',Us,v3,v4,v5,v6,v7,v8,by rw[UW];simp,JH,g1,g2,rfl,g3,g4,g5,g6⟩,?_⟩
   have e1:ns=pre++((c.j:Int)::(c.x++((if kk=1 then(c.row.length:Int)::c.row else [])++t'))):=by rw[Q5,eq];rfl
   have e2:ns=(pre++ [(c.j:Int)])++(c.x++((if kk=1 then(c.row.length:Int)::c.row else [])++t')):=by rw[e1];simp
   refine⟨_,rfl,_,rfl,a,_,_,_,rfl,rfl,Lk,OX e1 Dg,?_⟩;refine⟨_,rfl,T.dS.a,_,_,_,rfl,rfl,T.dS.sq _,HB (by rw[aW,WE];rfl),?_⟩;refine⟨_,rfl,_,_,rfl,rfl,_,rfl,_,_,_,_,rfl,rfl,fsq _,rfl,_,_,rfl,rfl,?_⟩;refine⟨_,rfl,_,rfl,_,_,rfl,rfl,_,rfl,_,rfl,_,rfl,a,_,rfl,Lk,λp1 Wn=>?_⟩;have Oy:∀b,H1 b=none->H0 b=none:=λb hb=>by
    cases h:H0 b with
    |none=>rfl
    |some o=>rw[k1 b o h (λe=>by rw[e,f1]at hb;cases hb)]at hb;cases hb
   have ln:done.length+1<=400:=by rw[UW,aA,aq]at UE;omega
   have lcs:(cs.map V.ref).length<sizeLine:=by rw[ab,c1.1,bo];omega
   have fin:∀(H3:Hp)(pn pr:Addr),aS H1 H3->H1 pn=none->H1 pr=none->H3 pn=some (.lst (c.x.map V.int))->H3 pr=some (.lst (c.row.map V.int))->∀p4,H3 p4=none->
     (∀b o,H0 b=some o->b≠f->(upd (upd H3 p4 (.tup [.int c.j,.ref pn,.ref pr])) f (.lst (cs.map V.ref++ [.ref p4]))) b=some o)/\(upd (upd H3 p4 (.tup [.int c.j,.ref pn,.ref pr])) f (.lst (cs.map V.ref++ [.ref p4]))) f=some (.lst ((cs++ [p4]).map V.ref))/\kG H0 (upd (upd H3 p4 (.tup [.int c.j,.ref pn,.ref pr])) f (.lst (cs.map V.ref++ [.ref p4]))) (cs++ [p4]) (done++ [c]):=by
    intro H3 pn pr s3 n1 n2 h1 h2 p4 NG;have keep:∀b o,H3 b=some o->b≠f->(upd (upd H3 p4 (.tup [.int c.j,.ref pn,.ref pr])) f (.lst (cs.map V.ref++ [.ref p4]))) b=some o:=λb o e n=>by
     rw[aG n,aG (aR e NG)];exact e
    have nf:∀b,H1 b=none->b≠f:=λb hb e=>by rw[e,f1]at hb;cases hb
    have p4f:p4≠f:=λe=>by rw[e,s3 _ _ f1]at NG;cases NG
    refine⟨λb o e n=>keep b o (s3 _ _ (k1 b o e n)) n,by rw[ai,aZ];rfl,kG.snoc (c1.keep λb o e _ hb=>keep b o (s3 _ _ e) ?_) ⟨pn,pr,Oy _ n1,Oy _ n2,by rw[aG p4f,ai],keep _ _ h1 (nf _ n1),keep _ _ h2 (nf _ n2)⟩⟩;rcases hb with hb|⟨xs,rfl⟩
    ·exact λe=>by rw[e,ef]at hb;cases hb
    ·exact cF e f1 (by intro q;cases q)
   rw[LO e2 (by rw[Dg];simp) (by rw[Dg,R.xl];simp)];have s2:=aS.new (o:=.lst (c.x.map V.int)) Wn;have W5:upd H1 p1 (.lst (c.x.map V.int)) p1=some (.lst (c.x.map V.int)):=ai;generalize upd H1 p1 (.lst (c.x.map V.int))=H2 at s2 W5;refine⟨bp _,λp2 OG=>?_⟩;have s3:=aS.new (o:=.lst []) OG;have h2n:upd H2 p2 (.lst []) p2=some (.lst []):=ai;generalize upd H2 p2 (.lst [])=H3 at s3 h2n;have FK:=s2.trans s3;have Wm:H1 p2=none:=by
    cases h:H1 p2 with
    |none=>rfl
    |some o=>rw[s2 _ _ h]at OG;cases OG
   refine⟨_,rfl,_,_,_,_,rfl,rfl,fsq _,rfl,rfl,_,rfl,kg (λh2=>?_) (λh2=>?_)⟩
   ·have hk:kk=1:=by have h2:(kk:Int)=1:=h2;omega
    rw[az hk]at e1 e2;have e3:ns=(pre++ [(c.j:Int)]++c.x)++((c.row.length:Int)::(c.row++t')):=by rw[e2];simp
    have e4:ns=(pre++ [(c.j:Int)]++c.x++ [(c.row.length:Int)])++(c.row++t'):=by rw[e3];simp
    refine⟨_,rfl,_,_,rfl,rfl,?_⟩;refine⟨_,rfl,_,rfl,_,rfl,a,_,_,_,rfl,rfl,FK.seq Lk,OX e3 (by rw[Dg];have:=R.xl;simp only[aA,aq,bR];omega),_,_,rfl,rfl,?_⟩;refine⟨_,rfl,_,rfl,_,rfl,_,rfl,_,rfl,a,_,rfl,FK.seq Lk,λp3 Wl=>?_⟩;rw[LO e4 (by rw[Dg];have:=R.xl;simp only[aA,aq,bR];omega) (by rw[Dg];have:=R.xl;simp only[aA,aq,bR];omega)];have s4:=aS.new (o:=.lst (c.row.map V.int)) Wl;have h3n:upd H3 p3 (.lst (c.row.map V.int)) p3=some (.lst (c.row.map V.int)):=ai;generalize upd H3 p3 (.lst (c.row.map V.int))=H4 at s4 h3n;have Uq:=FK.trans s4;have Wk:H1 p3=none:=by
     cases h:H1 p3 with
     |none=>rfl
     |some o=>rw[FK _ _ h]at Wl;cases Wl
    refine⟨_,rfl,.inl ⟨rfl,_,cG.of (Uq _ _ f1)⟩,_,rfl,_,rfl,_,rfl,(by show 3<=sizeLine;decide),λp4 NG=>?_⟩;obtain⟨g1,g2,g3⟩:=fin H4 p1 p3 Uq Wn Wk (s4 _ _ (s3 _ _ W5)) h3n p4 NG;refine⟨f,_,_,rfl,rfl,(by rw[aG (aR (Uq _ _ f1) NG)];exact Uq _ _ f1),lcs,?_⟩;exact⟨_,rfl,cs++ [p4],pre++ [(c.j:Int)]++c.x++ [(c.row.length:Int)]++c.row,_,_,_,_,_,_,_,(by rw[e4];simp),(by rw[Dg];have:=R.xl;simp only[aA,aq,bR];omega),g1,g2,g3,rfl⟩
   ·have hk:kk=0:=by
     rcases R.XC with q|q
     ·exact q
     ·exact absurd (show(kk:Int)=1 by omega) h2
    rw[aw (by omega)]at e1 e2;have fh:c.row=[]:=R.nil hk;have e3:ns=(pre++ [(c.j:Int)]++c.x)++t':=by rw[e2];simp
    refine⟨_,rfl,.inl ⟨rfl,_,cG.of (FK _ _ f1)⟩,_,rfl,_,rfl,_,rfl,(by show 3<=sizeLine;decide),λp4 NG=>?_⟩;obtain⟨g1,g2,g3⟩:=fin H3 p1 p2 FK Wn Wm (s3 _ _ W5) (by rw[fh];exact h2n) p4 NG;refine⟨f,_,_,rfl,rfl,(by rw[aG (aR (FK _ _ f1) NG)];exact FK _ _ f1),lcs,?_⟩;exact⟨_,rfl,cs++ [p4],pre++ [(c.j:Int)]++c.x,_,_,_,_,_,_,_,e3,(by rw[Dg];have:=R.xl;simp only[aA,aq,bR];omega),g1,g2,g3,rfl⟩
 ·rw[ab,Q5,aA,Dg]at h1
  have ht:t=[]:=iL.mp (by omega);subst ht;have er:rest=[]:=by
   cases UC with
   |nil=>rfl
   |cons R ok JH=>have:=R.eq;simp at this
  rw[er,fj]at UW;subst UW;refine⟨_,rfl,k H1 f cs s1 hf f1 ⟨c1.1,λi c p h2 h3=>?_⟩⟩;obtain⟨a',r',n1,n2,g⟩:=c1.2 i c p h2 h3;refine⟨a',r',?_,?_,g⟩
  ·cases h:H a' with
   |none=>rfl
   |some o=>rw[s0 _ _ h]at n1;cases n1
  ·cases h:H r' with
   |none=>rfl
   |some o=>rw[s0 _ _ h]at n2;cases n2
end
def odd:HO->Bool
 | .dK _=>true
 | .iV _ (.dK _)=>true
 | .iV _ (.lst _)=>true
 |_=>false
def del(H:Hp)(g:Addr):Hp:=λb=>if b=g then none else H b
theorem CG{H:Hp}{g b:Addr}(n:b≠g):del H g b=H b:=aw n
theorem LB{H:Hp}{g:Addr}{o:HO}:aS (del H g) (upd H g o):=λb u e=>by
 by_cases h:b=g
 ·rw[h]at e;unfold del at e;rw[az rfl]at e;cases e
 ·rw[CG h]at e;rw[aG h];exact e
theorem LZ{s:State}(W:Pb.Wf s){j:Nat}(x row:List Int)(hj:10<=j):(Pb.dU s (act s (Pb.sC j x row))).1=s:=by
 unfold Pb.sC;split
 all_goals first
  |omega
  |(rw[Pb.xN s W.k1];(repeat' split)<;>rfl)
  |(rw[Pb.uQ];(repeat' split)<;>rfl)
  |(rw[Pb.xM s W.k1];(repeat' split)<;>rfl)
  |(rw[Pb.qC];(repeat' split)<;>rfl)
  |(rw[Pb.qD s W.k1];(repeat' split)<;>rfl)
  |(rw[Pb.ou s W.k1];(repeat' split)<;>rfl)
  |(rw[Pb.ow];(repeat' split)<;>rfl)
  |(rw[Pb.qG];(repeat' split)<;>rfl)
  |(rw[Pb.uP];(repeat' split)<;>rfl)
  |(rw[Pb.qE s W.k1];(repeat' split)<;>rfl)
  |(rw[Pb.qF];(repeat' split)<;>rfl)
  |(rw[Pb.uO];(repeat' split)<;>rfl)
section
variable{K:c9}{mg:jB}{base:Heap}{T:Tx K mg base}{z:Ad}{s:State}{L:List Paper}{M:List Deed}{H H':Hp}
theorem BX.mv(B:BX T z s L M H)(k:∀b o,H b=some o->odd o=false->H' b=some o)(hP:Rd H' z.P (.dK (kJ z L)))(hD:Rd H' z.D (.dK (rK z M)))(hn:∀p∈L,∀o,H (z.nd p.num)=some o->H' (z.nd p.num)=some o):BX T z s L M H':=by
 have bx:∀{l:Addr}{bs:List Box},CZ H l bs->CZ H' l bs:=λ⟨as,h1,h2,h3⟩=>⟨as,k _ _ h1 rfl,h2,λi a b q1 q2=>k _ _ (h3 i a b q1 q2) rfl⟩
 have od:∀{v:V}{o:Option Nat},GC H v o->GC H' v o:=λ{v o}h=>by
  cases o with
  |none=>exact h
  |some n=>obtain⟨a,h1,h2⟩:=h;exact⟨a,h1,k _ _ h2 rfl⟩
 obtain⟨cs,c1,c2⟩:=B.closed;obtain⟨lm,l1,l2,l3⟩:=B.lH;obtain⟨rs,r1,r2⟩:=B.rest;obtain⟨xs,⟨o,es,ep,g1,g2,g3,g4,g5,g6,g7,g8⟩,h2⟩:=B.jT;refine⟨B.wf,B.i6,B.par,B.iB,k _ _ B.ins rfl,k _ _ B.fq rfl,⟨rs,k _ _ r1 rfl,r2⟩,⟨cs,k _ _ c1 rfl,c2⟩,hP,hD,λp hp=>?_,λd hd=>?_,⟨lm,k _ _ l1 rfl,l2,λe he=>⟨(l3 e he).1,k _ _ (l3 e he).2 rfl⟩⟩,⟨xs,⟨o,es,ep,k _ _ g1 rfl,g2,g3,g4,g5,g6,g7,λy hy=>?_⟩,h2⟩,?_,B.sep⟩
 ·obtain⟨dx,dt,bl,nm,wd,pu,R⟩:=B.paper p hp
  exact⟨dx,dt,bl,nm,wd,pu,k _ _ R.ins rfl,k _ _ R.date rfl,bx R.boxes,hn p hp _ R.named,R.perm,od R.out,od R.shown⟩
 ·obtain⟨dx,dt,bl,R⟩:=B.uD d hd
  exact⟨dx,dt,bl,k _ _ R.ins rfl,k _ _ R.date rfl,bx R.boxes⟩
 ·obtain⟨t,t1,t2⟩:=g8 y hy
  refine⟨t,k _ _ t1 rfl,?_⟩;rcases t2 with(hc|⟨u,hc⟩)|hc
  ·exact .inl (.inl (k _ _ hc rfl))
  ·exact .inl (.inr ⟨u,k _ _ hc rfl⟩)
  ·exact .inr hc
 ·rcases B.tab with h|⟨c,h1,h2,h3⟩
  ·exact .inl (k _ _ h rfl)
  ·exact .inr ⟨c,k _ _ h1 rfl,k _ _ h2 rfl,h3⟩
theorem yF{b c:Addr}{o u:HO}(h1:H b=some o)(h2:odd o=false)(h3:H c=some u)(h4:odd u=true):b≠c:=cF h1 h3 λe=>by rw[e,h4]at h2;cases h2
theorem WX.lock(B:WX T z s L M H)(o1 o2:Obj):QX T z s L M (upd (upd H z.P (.iV o1 (.dK (kJ z L)))) z.D (.iV o2 (.dK (rK z M)))):=by
 have hP:(upd (upd H z.P (.iV o1 (.dK (kJ z L)))) z.D (.iV o2 (.dK (rK z M)))) z.P=some (.iV o1 (.dK (kJ z L))):=by rw[aG B.PD,ai]
 refine⟨B.toBX.mv (λb o e y=>?_) (.inr ⟨_,hP⟩) (.inr ⟨_,ai⟩) (λp hp o e=>?_),⟨_,hP⟩,⟨_,ai⟩⟩
 ·rw[aG (yF e y B.hD rfl),aG (yF e y B.hP rfl)];exact e
 ·rw[aG (B.C9 p hp).2,aG (B.C9 p hp).1];exact e
theorem QX.free(B:QX T z s L M H)(i:∀p∈L,∀q∈L,z.nd p.num=z.nd q.num->p.num=q.num)(n:∀p∈L,z.nd p.num≠z.P/\z.nd p.num≠z.D)(pd:z.P≠z.D):WX T z s L M (upd (upd H z.D (.dK (rK z M))) z.P (.dK (kJ z L))):=by
 obtain⟨o1,fP⟩:=B.fP;obtain⟨o2,fD⟩:=B.fD;have hD:(upd (upd H z.D (.dK (rK z M))) z.P (.dK (kJ z L))) z.D=some (.dK (rK z M)):=by rw[aG pd.symm,ai]
 refine⟨B.toBX.mv (λb o e y=>?_) (.inl ai) (.inl hD) (λp hp o e=>?_),ai,hD,i,n,pd⟩
 ·rw[aG (yF e y fP rfl),aG (yF e y fD rfl)];exact e
 ·rw[aG (n p hp).1,aG (n p hp).2];exact e
theorem WX.off(B:WX T z s L M H){g:Addr}{od:Obj}{xs:List V}(h:H g=some (.iV od (.lst xs))):WX T z s L M (del H g):=by
 have nk:∀{b:Addr}{q:List (Key×V)},H b=some (.dK q)->del H g b=some (.dK q):=λe=>by rw[CG (cF e h (by intro q;cases q))];exact e
 refine⟨B.toBX.mv (λb o e y=>?_) (.inl (nk B.hP)) (.inl (nk B.hD)) (λp hp o e=>?_),nk B.hP,nk B.hD,B.JG,B.C9,B.PD⟩
 ·rw[CG (yF e y h rfl)];exact e
 ·obtain⟨dx,dt,bl,nm,wd,pu,R⟩:=B.paper p hp
  rw[R.named]at e;cases e;exact nk R.named
end
theorem _root_.Pb.oz.ok{l:List Int}{ps:List Pb.f9}(h:Pb.oz l ps):∀p∈ps,p.Ok:=by
 induction h with
 |nil=>intro p hp;cases hp
 |cons R ok hr ih=>
  intro p hp;rcases aB.mp hp with e|e
  ·rw[e];exact ok
  ·exact ih p e
section
variable{P:Program}{w:World}{K:c9}{mg:jB}{base:Heap}
def J9(T:Tx K mg base):Sp:=λvs H Q _=>∃(z:Ad)(s:State)(L:List Paper)(M:List Deed)(j:Nat)(a r:Addr)(x row:List Int)(n:Nat),vs=[.ref z.b,.int j,.ref a,.ref r]/\WX T z s L M H/\cG K H a (x.map V.int)/\cG K H r (row.map V.int)/\row.length<=100/\Pb.dS[j]?=some (x.length,n)/\Done T z s (Pb.sC j x row) H Q
theorem Iq(T:Tx K mg base):Ok P w base 13 T.answer (J9 T):=by
 refine T.answer.ok Ib λH vs Q E hr h=>?_
 obtain⟨z,s,L,M,j,a,r,x,row,fk,rfl,B,hx,fh,hn,hf,k⟩:=h;refine⟨_,(af (bt (bB A3 (pv 1) (bX rfl T.zr) (bK _)) (af (fR (DO (pv 0) T.bM.cl T.ib.me ((pO T).mono (by decide)) hr T.ib.b .nil pK))
   (au (aH (pc T.keep (Np T) hr (av 0 (av 1 (av 2 (av 3 ah)))))))) aQ)
   (au (aH (xy<|xy<|pc T.ask (Qk T) hr (av 0 (av 1 (av 2 (av 3 ah)))))))),?_⟩
 refine⟨_,rfl,_,_,rfl,rfl,_,rfl,jb (λh1=>?_) (λh1=>?_)⟩
 ·refine⟨_,rfl,z.b,z.dx,_,rfl,B.ins,uJ,z.b,z.dx,_,rfl,B.ins,(by show 7<900;decide),λH1 li fi nl nf k1 x1 q1 q2=>?_⟩
  rw[rN,rP]at x1;have kl:=k1.kl B.ins rfl;exact⟨_,rfl,_,rfl,_,rfl,_,rfl,{z with Li:=li,Fi:=fi},s,L,M,j,a,r,x,row,fk,rfl,B.forget nl nf k1 x1 q1 q2,kl.seq hx,kl.seq fh,hn,(by omega),hf,λH' l z' L' M' k2 hz=>k H' l z' L' M' (kl.trans k2) hz⟩
 ·have W6:10<=j:=by omega
  refine⟨z.P,_,B.hP,True.intro,λo1=>⟨z.D,.dK (rK z M),(by rw[aG B.PD.symm];exact B.hD),True.intro,λo2=>?_⟩⟩;have Q0:=B.lock o1 o2;have k0:Kl H (upd (upd H z.P (.iV o1 (.dK (kJ z L)))) z.D (.iV o2 (.dK (rK z M)))):=λb o e y=>by
   rw[aG (cF e B.hD (by intro q;rw[q]at y;cases y)),aG (cF e B.hP (by intro q;rw[q]at y;cases y))];exact e
  have f1:(upd (upd H z.P (.iV o1 (.dK (kJ z L)))) z.D (.iV o2 (.dK (rK z M)))) z.P=some (.iV o1 (.dK (kJ z L))):=by rw[aG B.PD,ai]
  have f2:(upd (upd H z.P (.iV o1 (.dK (kJ z L)))) z.D (.iV o2 (.dK (rK z M)))) z.D=some (.iV o2 (.dK (rK z M))):=ai;refine⟨_,rfl,_,rfl,_,rfl,_,rfl,z,s,L,M,j,a,r,x,row,fk,rfl,Q0,k0.seq hx,k0.seq fh,hn,W6,hf,λH' l k2 Q2 e=>⟨k2 _ _ f2 rfl,(by rw[aG B.PD];exact k2 _ _ f1 rfl),?_⟩⟩;have nP:l≠z.P:=cF e (k2 _ _ f1 rfl) (by intro q;cases q);have nD:l≠z.D:=cF e (k2 _ _ f2 rfl) (by intro q;cases q);refine k _ l z L M (λb o e y=>?_) rfl (by rw[LZ B.wf x row W6];exact Q2.free B.JG B.C9 B.PD) (by rw[aG nP,aG nD];exact e);rw[aG (cF e B.hP (by intro q;rw[q]at y;cases y)),aG (cF e B.hD (by intro q;rw[q]at y;cases y))];exact k2 _ _ (k0 _ _ e y) (by cases o<;>first|rfl|cases y)
theorem xI{H:Hp}{g:Addr}{o:HO}:del (upd H g o) g=del H g:=by
 funext b
 unfold del
 by_cases h:b=g
 ·rw[az h,az h]
 ·rw[aw h,aw h,aG h]
def AR(K:c9)(tb:Addr):Sp:=λvs H Q _=>∃(a:Addr)(ns:List Int),vs=[.ref a]/\cG K H a (ns.map V.int)/\PyVbptae.answers_asked ns=true/\H tb=some (.tI #[])/\∀H' l,H' l=some (.lst ((PyVbptae.answers ns).map V.int))->Q (.ref l) H'
theorem FV(T:Tx K mg base):Ok P w base 14 T.answers (AR K T.oW):=by
 have nd:=yd.nd;refine T.answers.ok yd λH vs Q E hr h=>?_
 obtain⟨a,ns,rfl,ha,hq,ht,k⟩:=h;refine⟨_,(af (sl 1 nd (Kq T.Nu ((Cn T).mono (by decide)) hr rfl T.bM.mg T.nj.b .nil pK))
   (af (sl 2 nd (a7 ah))
   (af (lG cX rfl (iq (pc T.zo (DX T) hr (av 0 ah))) (gl 3 nd) (af (sl 4 nd (xy<|pc T.answer (Iq T) hr (av 1 (ag (cA dg (pv 3) aC (λ_ _=>rfl)) (ag (cA dg (pv 3) aC (λ_ _=>rfl)) (ag (cA dg (pv 3) aC (λ_ _=>rfl)) ah))))))
   (af (fR (oM bV kX kW qu (pv 2) (ag (bQ cK (by rfl) T.gz bH (av 4 ah)) ah)))
   (au (fR (oM bV d7 d6 jN (pv 2) (av 4 ah)))))))
   (au (aH (pv 2)))))),?_⟩
 obtain⟨ps,hR,hl,hd⟩:=Pb.XY hq;rw[hd]at k;intro x dx nx zM RC;refine⟨x,dx,rfl,ai,(by rw[aG (aR ht nx),aG (aR ht zM)];exact ht),λH1 z hz k1 B=>⟨rfl,?_⟩⟩;have s1:aS H H1:=aS.made nx zM k1;subst hz;refine⟨bp _,λg ng=>?_⟩;have Mc:=aS.new (o:=.lst []) ng;have s2:=s1.trans Mc;have eg:upd H1 g (.lst []) g=some (.lst []):=ai;have B2:WX T z Vbptae.start [] [] (del (upd H1 g (.lst [])) g):=by
  rw[xI,show del H1 g=H1 by funext b;unfold del;split;rename_i h;rw[h,ng];rfl];exact B
 generalize upd H1 g (.lst [])=H2 at Mc s2 eg B2;refine⟨_,rfl,a,ns,ps,rfl,s2.seq ha,hR,hl,λH3 l cs s3 nl el cr=>⟨l,rfl,⟨_,cG.of el⟩,?_⟩⟩;have lg:l≠g:=λe=>by rw[e,eg]at nl;cases nl
 have B3:WX T z Vbptae.start [] [] (del H3 g):=B2.same λb o e=>by
  by_cases h:b=g
  ·rw[h]at e;unfold del at e;rw[az rfl]at e;cases e
  ·rw[CG h]at e⊢;exact s3 _ _ e
 refine mH (n:=ps.length) (λi σ H'=>∃(z':Ad)(L:List Paper)(M:List Deed)(v3 v4:Option V),z'.b=z.b/\H' g=some (.lst ((Pb.vb Vbptae.start (ps.take i)).map V.int))/\WX T z' (Pb.after Vbptae.start (ps.take i)) L M (del H' g)/\H' l=some (.lst (cs.map V.ref))/\kG H2 H' cs ps/\σ=[some (.ref a),some (.ref z.b),some (.ref g),v3,v4])
  ⟨z,[],[],none,none,rfl,s3 _ _ eg,B3,el,cr,rfl⟩ (λi σ H' hi⟨_,_,_,_,_,_,_,_,h,_⟩=>jR (cG.of h) (by rw[ab,cr.1];exact hi)) (λσ H'⟨_,_,_,_,_,_,_,_,h,_⟩=>by have q:=gr (cG.of (K:=K) h);rw[ab,cr.1]at q;exact q) ?_ ?_
 ·rintro i x σ H4 H5 hi ⟨z',L,M,v3,v4,hz,e4,B4,Xc,Xj,rfl⟩ y
  obtain⟨rfl,hx⟩:=iz (cG.of Xc) y;obtain⟨c,hc,rfl⟩:=fW hx;have hp:ps[i]?=some ps[i]:=ae hi;have ok:Pb.f9.Ok ps[i]:=hR.ok _ (bL hi);generalize ps[i]=p at hp ok;obtain⟨a',r',n1,n2,h1,h2,h3⟩:=Xj.2 i c p hc hp;obtain⟨⟨fk,hf,_⟩,hrl⟩:=ok;have W:=B4.wf;have ts:=take_snoc hp;have sl:=Pb.DD (ps.take i) Pb.Dk;rw[bW]at sl;have al:=Pb.HD W p.call;generalize Ta:Pb.vb Vbptae.start (ps.take i)=xs at e4 sl;generalize hss:Pb.after Vbptae.start (ps.take i)=s at B4 W al;have nf:∀b,H2 b=none->b≠g:=λb hb e=>by rw[e,eg]at hb;cases hb
  have cg:c≠g:=cF h1 e4 (by intro q;cases q);dsimp only[m5];refine⟨g,_,e4,True.intro,λod=>?_⟩;have BL:WX T z' s L M (upd H5 g (.iV od (.lst (xs.map V.int)))):=B4.same LB;have up:∀{b:Addr}{o:HO},b≠g->H5 b=some o->(upd H5 g (.iV od (.lst (xs.map V.int)))) b=some o:=λn e=>by rw[aG n];exact e
  have eL:(upd H5 g (.iV od (.lst (xs.map V.int)))) g=some (.iV od (.lst (xs.map V.int))):=ai;have IX:=c8.of (K:=K) (up cg h1);have JJ:=up (nf _ n1) h2;have h3':=up (nf _ n2) h3;refine⟨_,rfl,_,rfl,_,_,_,_,rfl,rfl,IX,rfl,_,rfl,_,_,_,_,rfl,rfl,IX,rfl,_,rfl,_,_,_,_,rfl,rfl,IX,rfl,z',s,L,M,p.j,a',r',p.x,p.row,fk,(by rw[hz];rfl),BL,cG.of JJ,cG.of h3',(by omega),hf,λH6 l6 z6 L6 M6 k6 hz6 B6 e6=>⟨k6 _ _ eL rfl,?_⟩⟩;have lg6:l6≠g:=cF e6 (k6 _ _ eL rfl) (by intro q;cases q);have eU:(upd H6 g (.lst (xs.map V.int))) g=some (.lst (xs.map V.int)):=ai;have fU:(upd H6 g (.lst (xs.map V.int))) l6=some (.lst ((Pb.dU s (act s p.call)).2.map V.int)):=by rw[aG lg6];exact e6
  refine⟨_,rfl,.inl ⟨rfl,_,cG.of eU⟩,_,rfl,l6,_,rfl,.inl (cG.of fU),g,_,_,rfl,rfl,eU,(by rw[ab,bo];omega),?_⟩;rw[ab];have eV:(upd (upd H6 g (.lst (xs.map V.int))) g (.lst (xs.map V.int++ [.int ((Pb.dU s (act s p.call)).2.length:Nat)]))) g=some (.lst (xs.map V.int++ [.int ((Pb.dU s (act s p.call)).2.length:Nat)])):=ai
  have fV:(upd (upd H6 g (.lst (xs.map V.int))) g (.lst (xs.map V.int++ [.int ((Pb.dU s (act s p.call)).2.length:Nat)]))) l6=some (.lst ((Pb.dU s (act s p.call)).2.map V.int)):=by rw[aG lg6];exact fU
  refine⟨_,rfl,.inl ⟨rfl,_,cG.of eV⟩,_,rfl,g,l6,_,_,rfl,rfl,eV,fV,?_,z6,L6,M6,_,_,hz6.trans hz,?_,?_,?_,?_,rfl⟩
  ·rw[aA,ab,ab,bo]
   show xs.length+1+_<=_;omega
  ·rw[ai,ts,Pb.wg,Ta,hss]
   show _=some (HO.lst ((xs++(((Pb.dU s (act s p.call)).2.length:Int)::(Pb.dU s (act s p.call)).2++ [])).map V.int))
   rw[fj,aZ,JD];rfl
  ·rw[xI,xI,xI,ts,Pb.uN,hss]
   exact B6.off (k6 _ _ eL rfl)
  ·rw[aG lg,aG lg,aG lg];exact k6 _ _ (up lg Xc) rfl
  ·refine Xj.keep λb o e sqo hb=>?_
   have bg:b≠g:=by
    rcases hb with hb|⟨xs,rfl⟩
    ·exact nf b hb
    ·exact cF e e4 (by intro q;cases q)
   rw[aG bg,aG bg,aG bg];exact k6 _ _ (up bg e) sqo
 ·rintro σ H4 ⟨z',L,M,v3,v4,hz,e4,B4,Xc,Xj,rfl⟩
  rw[cM]at e4;exact⟨_,rfl,k H4 g e4⟩
end
end Pr
namespace Pr
open PySem PySem.Spec PyProof.Rows L2 Vbptae PbP
open PySem.W (WData Codec OpenSpec Well WellAll ReadsW ReadsAllW)
theorem Fw{P:Program}{w:World}{K:c9}{mg mb:jB}{CX:Mm}{k:Nat}{fa:Addr}{fd:FuncData}{ps:List Str}{sp:Sp}{cY:Shared}{vals:List Value}{ds:List WData}{R:PySem.W.WRecords}{cl:Str->Option Addr}{d0:WData}{tb:Addr}
  (ht:cY.heap.get? tb=some {cls:=.none,data:=.fields #[]})(hct:isCodeTable cY.heap tb)(hkt:K.lookup tb=none)
  (KX:K.In cY.heap)(Me:cY.heap.Ns mainGlobals mg)(hb:cY.heap.Ns builtinsNs mb)(hbb:∀x:Str,x≠ "__name__"->mb x=bootBuiltins x)(Wv:cY.heap.NoLimit)(hg:cY.gens=#[])
  (Tb:WellAll w.params cY.heap vals ds)(vC:wV ds=true)(hwt:∀d∈ds,d.weight<=1048576)(hr:gV k callerA)
  (F:∀base:Heap,K.In base->base.Ns mainGlobals mg->(∀b o,cY.heap.get? b=some o->o.cls=.type "module"->base.get? b=some o)->lN P w K mg base CX k fa fd ps sp)(Lh:Binds K fd ps [])(hlen:ds.length=ps.length)
  (OF:∀(H:Hp)(xs:List V),H tb=none->rS K H xs ds->sp xs (upd H tb (.tI #[])) (λv H'=>Dw K H' v d0) λ_ _ _=>False)
  (hCX:∀H e s',CX [] H cY (λ_ _ _=>False) e s'->False):
  codeAny (model P w) callerA (.call (.ref fa) ⟨vals,[]⟩) (λr s'=>∃u as,r=.ok (.ret u)/\ReadsW R cl s'.heap u d0 as/\OldK cY.heap s'.heap/\s'.os=cY.os/\AllBare s'.gens) cY:=by
 obtain⟨A,ho,ar⟩:=uM ds vals Tb vC hwt;have n0:kU K cY.heap A tb=none:=by
  cases q:kU K cY.heap A tb with
  |none=>rfl
  |some u=>
   obtain⟨_,vs,_,_,⟨e2,_⟩|⟨e2,_⟩⟩:=qB ar q
   ·rw[e2]at ht;cases ht
   ·rw[e2]at ht;cases ht
 have hS:=CF KX ar ds vals Tb vC ho;have hV:=mL ho;have is:∀b u,upd (kU K cY.heap A) tb (.tI #[]) b=some u->(b=tb/\u=.tI #[])\/(b≠tb/\kU K cY.heap A b=some u):=λb u q=>by
  by_cases h:b=tb
  ·rw[h,ai]at q;exact .inl ⟨h,(bw q).symm⟩
  ·rw[aG h]at q;exact .inr ⟨h,q⟩
 have dy:qI P w (upd (kU K cY.heap A) tb (.tI #[])) cY.heap:=λb u q=>by
  rcases is b u q with⟨rfl,rfl⟩|⟨_,q⟩
  ·exact ht
  ·obtain⟨_,vs,h1,h2,⟨e,rfl⟩|⟨e,rfl⟩⟩:=qB ar q
   ·exact⟨e,by rw[ab];exact h1,vs,_,mL h2,e⟩
   ·exact⟨e,by rw[ab];exact h1,vs,mL h2,_,e,rfl,_,rfl⟩
 have hK:∀b u,upd (kU K cY.heap A) tb (.tI #[]) b=some u->K.lookup b=none:=λb u q=>by
  rcases is b u q with⟨rfl,_⟩|⟨_,q⟩
  ·exact hkt
  ·exact(qB ar q).1
 have RB:∀{b:Addr}{o:Obj}{es:Array DictEntry}{ep:Nat},cY.heap.get? b=some o->o.data=.dict es ep->upd (kU K cY.heap A) tb (.tI #[]) b=none:=λ{b o es ep}e d=>by
  cases q:upd (kU K cY.heap A) tb (.tI #[]) b with
  |none=>rfl
  |some u=>
   rcases is b u q with⟨rfl,_⟩|⟨_,q⟩
   ·rw[ht]at e;cases e;cases d
   ·obtain⟨_,vs,_,_,⟨e2,_⟩|⟨e2,_⟩⟩:=qB ar q
    ·rw[e2]at e
     cases e;have d':Data.seq vs.toArray _=Data.dict es ep:=d;cases d'
    ·rw[e2]at e
     cases e;have d':Data.seq vs.toArray _=Data.dict es ep:=d;cases d'
 have noM:∀{b:Addr}{o:Obj},cY.heap.get? b=some o->o.cls=.type "module"->upd (kU K cY.heap A) tb (.tI #[]) b=none:=λ{b o}e d=>by
  cases q:upd (kU K cY.heap A) tb (.tI #[]) b with
  |none=>rfl
  |some u=>
   rcases is b u q with⟨rfl,_⟩|⟨_,q⟩
   ·rw[ht]at e;cases e;cases d
   ·obtain⟨_,vs,_,_,⟨e2,_⟩|⟨e2,_⟩⟩:=qB ar q
    ·rw[e2]at e;cases e;exact absurd (Jy d) (by decide)
    ·rw[e2]at e;cases e;exact absurd (Jy d) (by decide)
 have hO:∀b u,upd (kU K cY.heap A) tb (.tI #[]) b=some u->b=tb\/∃o u',u=.iV o u':=λb u q=>by
  rcases is b u q with⟨rfl,_⟩|⟨_,q⟩
  ·exact .inl rfl
  ·obtain⟨_,vs,_,_,⟨_,e⟩|⟨_,e⟩⟩:=qB ar q
   ·exact .inr ⟨_,_,e⟩
   ·exact .inr ⟨_,_,e⟩
 have hq:=OF (kU K cY.heap A) _ n0 hS;have hT:upd (kU K cY.heap A) tb (.tI #[]) tb=some (.tI #[]):=ai;generalize upd (kU K cY.heap A) tb (.tI #[])=H at hO dy hK RB noM hq hT;have qA:∀{b:Addr}{o:Obj},cY.heap.get? b=some o->H b=none->(Cw cY.heap H).get? b=some o:=λe n=>Le e n
 have Uv:∀{b:Addr}{m:jB},cY.heap.Ns b m->(Cw cY.heap H).Ns b m:=λ{b m}⟨o,es,ep,e,d,r⟩=>⟨o,es,ep,qA e (RB e d),d,r⟩
 have nK:∀b o,K.lookup b=some o->H b=none:=λb o e=>by
  cases q:H b with
  |none=>rfl
  |some u=>
   rw[hK b u q]at e;cases e
 have hKb:K.In (Cw cY.heap H):=λb o e=>qA (KX b o e) (nK b o e)
 have hM:Mod K mg (Cw cY.heap H):=⟨hKb,Uv Me,⟨mb,Uv hb,hbb⟩,let⟨mc,h1,h2⟩:=Wv;⟨mc,Uv h1,h2⟩⟩;have e0:zE P w K mg (Cw cY.heap H) callerA [] cY H:=⟨rfl,hM,λb o e=>Nq e,qO (IQ _ _),trivial,λb hb=>absurd (show b∈([]:List Addr)from hb) (by simp),dy,.of_eq hg⟩;have hl:vals.length=ps.length:=by rw[lU Tb];exact hlen
 refine oS ((F _ hKb (Uv Me) λb o e d=>qA e (noM e d)).run callerA [] cY H ⟨vals,[]⟩ vals (vals.map toV) _ _ hr e0 (by have q:=Lh cY vals KX (by rw[fj];exact hl);rw[fj]at q;exact q) hV hq) λr s' x=>?_
 cases r with
 |error e=>exact(hCX H e s' x).elim
 |ok fl=>
  cases fl with
  |next=>exact False.elim x
  |brk=>exact False.elim x
  |cont=>exact False.elim x
  |ret u=>
   obtain⟨v,H',os,bare,un,QN,r',q⟩:=x;have kept:∀b o,b≠tb->cY.heap.get? b=some o->s'.heap.get? b=some o:=λb o nb e=>by
    cases q2:H b with
    |none=>exact un.keep b o e q2 (by intro z;exact absurd (show b∈([]:List Addr)from z) (by simp)) (by simp)
    |some u2=>
     rcases hO b u2 q2 with z|⟨ob,u3,rfl⟩
     ·exact absurd z nb
     ·have z2:=un.yY b ob _ q2
      obtain⟨e1,_⟩:=dy b _ q2;obtain⟨e2,_⟩:=QN b _ z2;rw[e]at e1;cases e1;exact e2
   have KX':K.In s'.heap:=λb o e=>kept b o (λz=>by rw[z,hkt]at e;cases e) (KX b o e)
   obtain⟨as,hrd⟩:=Dw.reads (R:=R) (cl:=cl) QN KX' d0 v u q r';obtain⟨more,UQ⟩:=un.zX tb _ hT;have ND:s'.heap.get? tb=some {cls:=.none,data:=.fields (#[]++more)}:=QN tb _ UQ;refine⟨u,as,rfl,hrd,⟨λb o e=>?_,λb o e=>?_⟩,os,bare⟩
   ·by_cases z:b=tb
    ·subst z
     rw[ht]at e;cases e;exact .inr (.inl ⟨hct,rfl,#[],more,rfl,ND⟩)
    ·exact .inl (kept b o z e)
   ·by_cases z:b=tb
    ·subst z;exact⟨_,ND⟩
    ·exact⟨o,kept b o z e⟩
abbrev RA:OpenSpec:=PySem.Challenge.rw_prioritybook_s01_answers
theorem U8{q:Program}{loose:List Str}{XP:(Str->Option Value)->Heap->Prop}{YP:World->Heap->Prop}{d:DefRec}{K:Params->c9}
  (Tc:RA.wellSaid=true)(hn:d.name="answers")(hq:((recsOf q).any λd=>d.name== "deeds_until")=true) (hr:gV 14 callerA) (hY:∀(w:World)(h:Heap),YP w h->(K w.params).In h)
  (mk:∀(w:World)(mg:jB)(h:Heap),(K w.params).In h->h.Ns mainGlobals mg->∃T:XG (K w.params) mg,(K w.params).lookup T.oW=none):
  PySem.W.WalkOS q loose XP YP RA d [] (λf vs=>PySem.call f vs):=by
 intro w AZ cY mg mb G Y fa o pm cd doc dV kV ho hd Ga hD QP hg args vals as Wi QQ hrd Tb hlo;obtain⟨a,e1,e2⟩:=PySem.W.os_pre_some Wi;obtain⟨e3,E7⟩:=Codec.encAll_of_decAll RA.args args a e1;subst e3;have KX:=hY w _ Y;obtain⟨T,hT⟩:=mk w mg cY.heap KX G.T.g;rw[hn,T.answers.mg]at QP;cases QP;obtain⟨dd,hdd,hdn⟩:=fJ.mp hq;obtain⟨bm,ob,b1,b2,b3,b4,b5,b6⟩:=G.T.bmain;obtain⟨a1,o1,fd1,c1,P1,t1,t2,t3,t4,t5,t6⟩:=G.T.tab dd hdd;rw[show dd.name="deeds_until" by simpa using hdn,T.hZ.mg]at t1;cases t1;obtain⟨oc,od,kV',doc',pm',an,mq,ct,G3,_,lk,_⟩:=T.hZ.F.ex;rw[KX _ _ lk]at t2;cases t2;injection t3 with t3
 rw[<-t3,T.OS]at t4;injection t4 with t4
 subst t4;obtain⟨⟨ox,vx,x1,x2,x3,x4⟩,x5⟩:=id t6;obtain⟨oy,vy,file,tf,flags,tg,V0,text,tt,y1,y2,y3,y4,_⟩:=T.XF _ KX;rw[x1]at y1;cases y1;rw[x3]at y3;cases y3;rw[x4]at y4;injection y4 with y4
 injection y4 with y4
 rw[y4]at x5 t6;refine PySem.W.enter_call (oS (Fw (CX:=Bu) (ps:=["calls"]) (fd:=T.answers.fd) (sp:=AR (K w.params) T.oW) (R:=[]) (cl:=classAt AZ.heap) (d0:=RA.ret.enc (Codec.app RA.args RA.f a)) x5 t6.isCodeTable hT KX G.T.g G.T.b G.T.builtins G.T.nolimit hg Tb (A1 _ _) (yR QQ) hr (λbase _ _ hm=>FV ⟨T,bm,ob,b1,b2,hm _ _ b3 b4,b4,b5,b6⟩) T.answers.b rfl ?_ λH e s' z=>z) λr' s' hq=>?_)
 ·intro H xs n0 hx
  cases hx with
  |cons h1 h2=>
   cases h2;cases h1 with
   |lst hs ha=>
    have e:=L2.Hg a.1 _ ha;subst e;refine⟨_,a.1,rfl,(aS.new n0).seq hs,?_,ai,λH' p hp=>.lst (L2.cG.of hp) (L2.Hn _)⟩
    exact e2
 ·obtain⟨u,as',rfl,h1,h2,h3,h4⟩:=hq
  exact⟨.inl ⟨u,_,as',rfl,λ_=>rfl,h1,(OpenSpec.post_iff Tc E7 _ _).mpr rfl,λz=>Bool.noConfusion (show false=true from z)⟩,h2,h3,h4⟩
end Pr
open PySem PySem.W PyProof.Rows
set_option maxRecDepth 100000 in
set_option maxHeartbeats 0 in
theorem PySem.Challenge.cw_prioritybook_s01_answers_holds : PySem.Challenge.rw_prioritybook_s01_answers.Holds := by
  w_on; k_headS; (case hw => exact ⟨[.list [.int 11,.int 1]],by decide +kernel,by decide +kernel⟩)
  k_fillS
  refine Pr.U8 (by decide +kernel) rfl (by decide +kernel) ⟨rfl,by decide,by decide⟩ (fun w h Y => PySem.W.kIn_of Y) ?F
  case F =>
    intro w mg h X G
    refine' ⟨⟨Pr.FC.of (C:=?CPaper) X G ?_ ⟨?_,?_,?_,?_⟩,Pr.na (C:=?CPaper) ?_,Pr.na (C:=?CPaper) ?_,Pr.na (C:=?CPaper) ?_,Pr.na (C:=?CPaper) ?_,Pr.na (C:=?CPaper) ?_,Pr.na (C:=?CPaper) ?_,Pr.na (C:=?CPaper) ?_,Pr.na (C:=?CPaper) ?_,Pr.na (C:=?CPaper) ?_,Pr.FC.of (C:=?CDeed) X G ?_ ⟨?_,?_,?_,?_⟩,Pr.na (C:=?CDeed) ?_,Pr.na (C:=?CDeed) ?_,Pr.na (C:=?CDeed) ?_,Pr.na (C:=?CDeed) ?_,Pr.na (C:=?CDeed) ?_,Pr.na (C:=?CDeed) ?_,Pr.FC.of (C:=?CBook) X G ?_ ⟨?_,?_,?_,?_⟩,Pr.na (C:=?CBook) ?_,Pr.na (C:=?CBook) ?_,Pr.na (C:=?CBook) ?_,Pr.na (C:=?CBook) ?_,Pr.na (C:=?CBook) ?_,Pr.na (C:=?CBook) ?_,Pr.na (C:=?CBook) ?_,Pr.FM.of (C:=?CPaper) ?_ ?_ ?_ ?_ ?_,Pr.XZ (C:=?CPaper) _ ?_ ?_,Pr.FM.of (C:=?CDeed) ?_ ?_ ?_ ?_ ?_,Pr.XZ (C:=?CDeed) _ ?_ ?_,Pr.FM.of (C:=?CBook) ?_ ?_ ?_ ?_ ?_,Pr.XZ (C:=?CBook) _ ?_ ?_,Pr.FM.of (C:=?CBook) ?_ ?_ ?_ ?_ ?_,Pr.FM.of (C:=?CBook) ?_ ?_ ?_ ?_ ?_,Pr.FA.of X G ?_ ?_ ?_ ?_,Pr.FA.of X G ?_ ?_ ?_ ?_,Pr.FA.of X G ?_ ?_ ?_ ?_,Pr.FA.of X G ?_ ?_ ?_ ?_,Pr.FA.of X G ?_ ?_ ?_ ?_,Pr.FA.of X G ?_ ?_ ?_ ?_,Pr.FA.of X G ?_ ?_ ?_ ?_,Pr.FA.of X G ?_ ?_ ?_ ?_,Pr.FA.of X G ?_ ?_ ?_ ?_,Pr.FA.of X G ?_ ?_ ?_ ?_,Pr.FA.of X G ?_ ?_ ?_ ?_,Pr.FA.of X G ?_ ?_ ?_ ?_,Pr.FA.of X G ?_ ?_ ?_ ?_,Pr.FA.of X G ?_ ?_ ?_ ?_,Pr.FA.of X G ?_ ?_ ?_ ?_,Pr.FA.of X G ?_ ?_ ?_ ?_,Pr.FA.of X G ?_ ?_ ?_ ?_,Pr.FA.of X G ?_ ?_ ?_ ?_,Pr.FA.of X G ?_ ?_ ?_ ?_,Pr.FA.of X G ?_ ?_ ?_ ?_,Pr.FA.of X G ?_ ?_ ?_ ?_,Pr.FA.of X G ?_ ?_ ?_ ?_,Pr.FA.of X G ?_ ?_ ?_ ?_,Pr.FA.of X G ?_ ?_ ?_ ?_,Pr.FA.of X G ?_ ?_ ?_ ?_,Pr.FA.of X G ?_ ?_ ?_ ?_,Pr.FA.of X G ?_ ?_ ?_ ?_,Pr.FA.of X G ?_ ?_ ?_ ?_,Pr.FA.of X G ?_ ?_ ?_ ?_,Pr.FA.of X G ?_ ?_ ?_ ?_,Pr.FA.of X G ?_ ?_ ?_ ?_,Pr.FA.of X G ?_ ?_ ?_ ?_,Pr.FA.of X G ?_ ?_ ?_ ?_,Pr.FA.of X G ?_ ?_ ?_ ?_,Pr.FA.of X G ?_ ?_ ?_ ?_,Pr.FA.of X G ?_ ?_ ?_ ?_,Pr.FA.of X G ?_ ?_ ?_ ?_,Pr.FA.of X G ?_ ?_ ?_ ?_,Pr.FA.of X G ?_ ?_ ?_ ?_,Pr.FA.of X G ?_ ?_ ?_ ?_,Pr.FA.of X G ?_ ?_ ?_ ?_,Pr.FA.of X G ?_ ?_ ?_ ?_,Pr.FA.of X G ?_ ?_ ?_ ?_,Pr.FA.of X G ?_ ?_ ?_ ?_,Pr.FA.of X G ?_ ?_ ?_ ?_,Pr.FA.of X G ?_ ?_ ?_ ?_,Pr.FA.of X G ?_ ?_ ?_ ?_,Pr.FA.of X G ?_ ?_ ?_ ?_,Pr.FA.of X G ?_ ?_ ?_ ?_,Pr.FA.of X G ?_ ?_ ?_ ?_,Pr.FA.of X G ?_ ?_ ?_ ?_,Pr.FA.of X G ?_ ?_ ?_ ?_,Pr.FA.of X G ?_ ?_ ?_ ?_,Pr.FA.of X G ?_ ?_ ?_ ?_,Pr.FA.of X G ?_ ?_ ?_ ?_,Pr.FA.of X G ?_ ?_ ?_ ?_,Pr.FA.of X G ?_ ?_ ?_ ?_,Pr.FA.of X G ?_ ?_ ?_ ?_,Pr.FA.of X G ?_ ?_ ?_ ?_,Pr.FA.of X G ?_ ?_ ?_ ?_,Pr.FA.of X G ?_ ?_ ?_ ?_,Pr.FA.of X G ?_ ?_ ?_ ?_,Pr.FA.of X G ?_ ?_ ?_ ?_,Pr.FA.of X G ?_ ?_ ?_ ?_,Pr.FA.of X G ?_ ?_ ?_ ?_,Pr.cst X G ?_,Pr.cst X G ?_,Pr.cst X G ?_,Pr.cst X G ?_,Pr.cst X G ?_,Pr.cst X G ?_,Pr.cst X G ?_,Pr.cst X G ?_,Pr.cst X G ?_,Pr.cst X G ?_,Pr.cst X G ?_,Pr.cst X G ?_,Pr.cst X G ?_,Pr.cst X G ?_,Pr.cst X G ?_,Pr.cst X G ?_,Pr.cst X G ?_,Pr.cst X G ?_,Pr.cst X G ?_,Pr.cst X G ?_,Pr.cst X G ?_,Pr.cst X G ?_,mg_none_of X G ?_,mg_none_of X G ?_,mg_none_of X G ?_,mg_none_of X G ?_,mg_none_of X G ?_,mg_none_of X G ?_,mg_none_of X G ?_,mg_none_of X G ?_,mg_none_of X G ?_,mg_none_of X G ?_,mg_none_of X G ?_,mg_none_of X G ?_,Pr.L9.of X G ?_ ?_ ?fo,?dc,?dtb,?dco,Pr.XD (dc:=?dc) (oW:=?dtb) ?h1 ?h2 ?h3 ?h4 ?h5 ?h6 ?h7⟩,?lk⟩
    any_goals k_is
    try any_goals k_is
    (case dco => rfl); (case h1 => k_is); (case h2 => rfl); (case h3 => rfl); (case h4 => rfl); (case h5 => rfl); (case h6 => rfl); (case h7 => kernel_rfl); (case fo => kernel_rfl); (case lk => kernel_rfl)
#print axioms PySem.Challenge.cw_prioritybook_s01_answers_holds
