"""Parameters of a case that may be any values."""
from lotback.errors import NotUsable


def check_lots(case, lots):
    """Raise NotUsable if any value is no set of at most few suspects."""
    suspects = case[2]
    if not isinstance(lots, tuple) or len(lots) > case[3]:
        raise NotUsable("lots", -1)
    for k, lot in enumerate(lots):
        if lot not in suspects or (k > 0 and lot <= lots[k - 1]):
            raise NotUsable("lots", k)
