"""Parameters of a case that may be any values."""
from lotback.bookparts import sales_outside
from lotback.errors import NotUsable
from lotback.kinds import is_number


def check_lots(case, lots):
    """Raise NotUsable if any value is no set of at most few suspects."""
    suspects = case[2]
    if not isinstance(lots, tuple) or len(lots) > case[3]:
        raise NotUsable("lots", -1)
    for k, lot in enumerate(lots):
        if lot not in suspects or (k > 0 and lot <= lots[k - 1]):
            raise NotUsable("lots", k)


def check_sales(case, sales):
    """Raise NotUsable if any value is no set of sales outside."""
    if not isinstance(sales, tuple):
        raise NotUsable("sales", -1)
    outside = sales_outside(case[0])
    for k, t in enumerate(sales):
        # True, which equals 1, is no sale.
        if not is_number(t) or t not in outside or (k > 0 and t <= sales[k - 1]):
            raise NotUsable("sales", k)
