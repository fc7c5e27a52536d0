"""What the program refuses, one class for each refusal."""


class ShareError(ValueError):
    pass


class BadRow(ShareError):
    pass


class BadGifts(ShareError):
    pass


class BadAmount(ShareError):
    pass


class Unlike(ShareError):
    pass


class BadText(ShareError):
    pass
